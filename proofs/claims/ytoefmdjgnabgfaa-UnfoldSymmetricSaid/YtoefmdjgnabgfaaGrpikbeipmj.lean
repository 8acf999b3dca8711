import Derived.Test.YtoefmdjgnabgfaaGrpgejcaodc
import Derived.Test.YtoefmdjgnabgfaaGrpcoacpmej
import Derived.Test.YtoefmdjgnabgfaaGrpaflcfklf
import Derived.Test.YtoefmdjgnabgfaaGrpbdnilmoj
set_option linter.all false
namespace Go.Proofs.Ytoefmdjgnabgfaa
set_option maxRecDepth 100000
set_option maxHeartbeats 6400000
open Go.RowKit Go.Deep
variable {J : World → Prop}
theorem index_c (xs : List Int) (x : Int) (hx : xs.length ≤ 9223372036854775807) : Ctr Try.prog J 85 [Zc xs, iv x] (iv (idxI xs x)) := by
 refine Zy Try.func85 rfl (by intro X hX; simp only [List.mem_cons, List.not_mem_nil, or_false] at hX; rcases hX with rfl | rfl; exact ZI _; exact .v _) (n := 19) rfl (by simp) (fun w0 => ?_)
 refine kW 19 [] [(0, Zc xs), (1, iv x)] (Zb (Za (pM (aC (.int .i64 0)) (kN 19 [] [(0, Zc xs), (1, iv x), (4, iv 0)] (Zd (Zb (Zb (Za (pM (mT 0 (Zc xs)) (oA (Zs (.tmp 6) rfl U24) I0 (pM (YH (.const (.int .i64 0)) (iv 0) rfl) ?_)))))))))))
 refine kN 19 [] [(0, Zc xs), (1, iv x), (4, iv 0), (7, iv xs.length), (8, iv 0)] (Zd (ZC ?_))
 refine Yk (σ := {k : Nat // k ≤ xs.length ∧ noI xs x k}) (fun s => (ofL [], ofT 19 [(0, Zc xs), (1, iv x), (7, iv xs.length), (8, iv s.1)])) (fun s => xs.length - s.1) ⟨0, Nat.zero_le _, noI_zero _ _⟩ (ZL [] _ rfl (by kernel_rfl) (by kernel_rfl)) (fun s => ?_)
 obtain ⟨k, hk0, hs0⟩ := s
 show ETri J w0 (ofL []) (ofT 19 [(0, Zc xs), (1, iv x), (7, iv xs.length), (8, iv k)]) _
 refine Zb ?_
 by_cases hs1 : ((k : Nat) : Int) < ((xs.length : Nat) : Int)
 refine Za (oC (Z4 rfl (dT hs1)) I0 I0 (kN 19 [] [(0, Zc xs), (1, iv x), (7, iv xs.length), (8, iv k), (9, bv true)] (Zd (Zb (Zu rfl (Zm (Zd (Zb (ZC (Zb (Za ?_)))))))))))
 refine pM (mT 8 (iv k)) (pM (aT 10 (iv k)) (kN 19 [] [(0, Zc xs), (1, iv x), (5, iv k), (7, iv xs.length), (8, iv k), (9, bv true)] (Zd (Zb ?_))))
 by_cases hs2 : x = xs[k]
 refine Za (pM (mT 1 (iv x)) (pM (mT 0 (Zc xs)) (pM (mT 5 (iv k)) (oC (ZA (off := k * 1) (.tmp 12) (.tmp 13) rfl U24 (by kernel_rfl) (by omega) (by omega) rfl) I0 I0 (oA (Zz (X := iv xs[k]) (.tmp 14) rfl U3 rfl (Yc xs (by omega))) I0 (oC (ZM rfl (dT hs2)) I0 I0 (kN 19 [] [(0, Zc xs), (1, iv x), (5, iv k), (7, iv xs.length), (8, iv k), (9, bv true), (16, bv true)] (Zd (Zu rfl (Zb (Za ?_)))))))))))
 refine pM (mT 5 (iv k)) (pM (aT 17 (iv k)) (Zr (Zd (Zl (Zk (Zh (Zh (Zk (Zh ?_)))))))))
 refine Zn Try.results85 (.tmp rfl) ?_
 exact congrArg (fun x : Int => AV.v (.int .i64 x)) (idx_yes (by omega) hs0 hs2)
 refine Za (pM (mT 1 (iv x)) (pM (mT 0 (Zc xs)) (pM (mT 5 (iv k)) (oC (ZA (off := k * 1) (.tmp 12) (.tmp 13) rfl U24 (by kernel_rfl) (by omega) (by omega) rfl) I0 I0 (oA (Zz (X := iv xs[k]) (.tmp 14) rfl U3 rfl (Yc xs (by omega))) I0 (oC (ZM rfl (dF hs2)) I0 I0 (kN 19 [] [(0, Zc xs), (1, iv x), (5, iv k), (7, iv xs.length), (8, iv k), (9, bv true), (16, bv false)] (Zd (Zq rfl (Zm (Yg ?_)))))))))))
 refine Zd (Za (oC (Yz (c := ((k + 1 : Nat) : Int)) rfl (w64 (by omega) (by omega) (by omega))) I0 I0 (pM (mT 18 (iv (k + 1 : Nat))) (kN 19 [] [(0, Zc xs), (1, iv x), (5, iv k), (7, iv xs.length), (8, iv (k + 1 : Nat)), (9, bv true), (16, bv false)] (Zd ?_)))))
 refine ZY ⟨k + 1, by omega, noI_succ (by omega) hs0 hs2⟩ (show xs.length - (k + 1) < xs.length - k by omega) ?_
 exact ZL [] _ rfl (by kernel_rfl) (by kernel_rfl)
 refine Za (oC (Z4 rfl (dF hs1)) I0 I0 (kN 19 [] [(0, Zc xs), (1, iv x), (7, iv xs.length), (8, iv k), (9, bv false)] (Zd (Zb (Zq rfl (Yo (Zv (Zv (t_hit (Zd (Zb ?_)))))))))))
 refine Za (pM (aC (.int .i64 (-1))) (Zr (Zd (Zl ?_))))
 refine Zn Try.results85 (.tmp rfl) ?_
 exact congrArg (fun x : Int => AV.v (.int .i64 x)) (idx_no (k := k) (by omega) hs0)
theorem YE (xs : List Int) (x : Int) (hx : xs.length ≤ 9223372036854775807) : Ctr Try.prog J 56 [Zc xs, iv x] (bv (decide (x ∈ xs))) := by
 refine Zy Try.func56 rfl (by intro X hX; simp only [List.mem_cons, List.not_mem_nil, or_false] at hX; rcases hX with rfl | rfl; exact ZI _; exact .v _) (n := 9) rfl (by simp) (fun w0 => ?_)
 refine kW 9 [] [(0, Zc xs), (1, iv x)] (Zb (Za (pM (aC (.bool false)) (kN 9 [] [(0, Zc xs), (1, iv x), (4, bv false)] (Zd (Zb (Za (pM (mT 0 (Zc xs)) (pM (mT 1 (iv x)) (oD (Zj (c := .func 85) (xs := #[.tmp 5, .tmp 6]) [] (index_c xs x hx) rfl (by kernel_rfl) rfl (Xs := [Zc xs, iv x]) rfl rfl rfl) I0 I0 I0 (oC (sp_geq rfl rfl) I0 I0 ?_)))))))))))
 refine pM (aT 8 (bv (decide (0 ≤ idxI xs x)))) (Zr (Zd (Zl ?_)))
 refine Zn Try.results56 (.tmp rfl) ?_
 exact congrArg (fun b : Bool => AV.v (.bool b)) (idx_has xs x)
theorem adjacent_c {p : Fm} (HP : FmOk p) (xs : List Int) : Ctr Try.prog J 115 [.agg (cFm p), Zc xs] (iv (adjE p xs)) := by
 refine Zy Try.func115 rfl (by intro X hX; simp only [List.mem_cons, List.not_mem_nil, or_false] at hX; rcases hX with rfl | rfl; exact Zx (Yi p); exact ZI _) (n := 36) rfl (by simp) (fun w0 => ?_)
 refine kW 36 [] [(0, .agg (cFm p)), (1, Zc xs)] (Zb (Za (Z9 rfl (ZT (X := .agg (cFm p)) (k := 1) (.tmp 0) rfl rfl) ⟨I0, T0⟩ T0 rfl (pM (aC (.int .i64 0)) (kN 36 [(1, .box 27 (cFm p))] [(1, Zc xs), (2, .box 1 0), (4, iv 0)] (Zd (Zb (ZC (Zb ?_)))))))))
 by_cases hs1 : ((xs.length : Nat) : Int) = 0
 refine Za (pM (mT 1 (Zc xs)) (oA (Zs (.tmp 6) rfl U24) I0 (oC (ZM rfl (dT hs1)) I0 I0 (pM (aT 8 (bv true)) (kN 36 [(1, .box 27 (cFm p))] [(1, Zc xs), (2, .box 1 0), (4, iv 0), (5, bv true)] (Zd (Zu rfl (Zb (Za (pM (aC (.int .i64 0)) (Zr ?_)))))))))))
 refine Zd (Zl (Zk (Zh ?_)))
 refine Zn Try.results115 (.tmp rfl) ?_
 exact congrArg (fun x : Int => AV.v (.int .i64 x)) ((adj_0 hs1).symm)
 refine Za (pM (mT 1 (Zc xs)) (oA (Zs (.tmp 6) rfl U24) I0 (oC (ZM rfl (dF hs1)) I0 I0 (pM (aT 8 (bv false)) (kN 36 [(1, .box 27 (cFm p))] [(1, Zc xs), (2, .box 1 0), (4, iv 0), (5, bv false)] (Zd (Zq rfl (Zb ?_))))))))
 by_cases hs2 : p.top = 1
 refine Za (oA (fb 1 2 U27 1) I0 (oB (lb (iv p.top) 10 U3) I0 rfl (oC (ZM rfl (dT hs2)) I0 I0 (pM (aT 12 (bv true)) (kN 36 [(1, .box 27 (cFm p))] [(1, Zc xs), (2, .box 1 0), (4, iv 0), (9, bv true)] (Zd (Zu rfl (Zb (Za (pM (aC (.int .i64 6)) (Zr ?_)))))))))))
 refine Zd (Zl (Zk (Zh ?_)))
 refine Zn Try.results115 (.tmp rfl) ?_
 exact congrArg (fun x : Int => AV.v (.int .i64 x)) ((adj_6 hs1 hs2).symm)
 refine Za (oA (fb 1 2 U27 1) I0 (oB (lb (iv p.top) 10 U3) I0 rfl (oC (ZM rfl (dF hs2)) I0 I0 (pM (aT 12 (bv false)) (kN 36 [(1, .box 27 (cFm p))] [(1, Zc xs), (2, .box 1 0), (4, iv 0), (9, bv false)] (Zd (Zq rfl (Zb ?_))))))))
 by_cases hs3 : ((xs.length : Nat) : Int) = 2
 refine Za (pM (mT 1 (Zc xs)) (oA (Zs (.tmp 14) rfl U24) I0 (oC (Z8 rfl (dT' hs3)) I0 I0 (pM (aT 16 (bv false)) (kN 36 [(1, .box 27 (cFm p))] [(1, Zc xs), (2, .box 1 0), (4, iv 0), (13, bv false)] (Zd (Zq rfl (Zb ?_))))))))
 by_cases hs4 : (ixB p.states.length xs[0]) = true
 by_cases hs5 : (ixB p.states.length xs[1]) = true
 refine Yw (dM (mT 1 (Zc xs)) (dC (ZA (off := 0 * 1) (.tmp 18) (.const (.int .i64 0)) rfl U24 (by kernel_rfl) (by omega) (by omega) rfl) I0 I0 (dA (Zz (X := iv xs[0]) (.tmp 19) rfl U3 rfl (Yc xs (by omega))) I0 (dA (fb 2 2 U27 1) I0 (dB (lb (Y3 p.states) 21 U22) I0 rfl (dA (Zs (.tmp 22) rfl U22) I0 (dD (Zj (c := .func 74) (xs := #[.tmp 20, .tmp 23]) [] (Z6 (isIndex_c xs[0] p.states.length HP.lstates) hs4) rfl (by kernel_rfl) rfl (Xs := [iv xs[0], iv p.states.length]) rfl rfl rfl) I0 I0 I0 (dA (Yb rfl rfl) I0 (dM (mT 25 (bv false)) (dM (mT 1 (Zc xs)) (dC (ZA (off := 1 * 1) (.tmp 27) (.const (.int .i64 1)) rfl U24 (by kernel_rfl) (by omega) (by omega) rfl) I0 I0 (dA (Zz (X := iv xs[1]) (.tmp 28) rfl U3 rfl (Yc xs (by omega))) I0 (dA (fb 2 2 U27 1) I0 (dB (lb (Y3 p.states) 30 U22) I0 rfl (dA (Zs (.tmp 31) rfl U22) I0 (dD (Zj (c := .func 74) (xs := #[.tmp 29, .tmp 32]) [] (Z6 (isIndex_c xs[1] p.states.length HP.lstates) hs5) rfl (by kernel_rfl) rfl (Xs := [iv xs[1], iv p.states.length]) rfl rfl rfl) I0 I0 I0 (dA (Yb rfl rfl) I0 (dP (Zt (.tmp 26) (.const (.bool true)) (.tmp 34) false (bv true) (bv false) rfl) (dM (aT 35 (bv false)) (dE ?_)))))))))))))))))))) (by kernel_rfl)
 show ETri J w0 _ _ _
 refine kW 36 [] [(4, iv 0), (17, bv false)] (Zd (Zq rfl (Zm (Yg (Zd (Zb (Za (pM (aC (.int .i64 0)) (Zr (Zd (Zl ?_)))))))))))
 refine Zn Try.results115 (.tmp rfl) ?_
 exact congrArg (fun x : Int => AV.v (.int .i64 x)) ((adj_k hs1 hs2 hs3 (adj_two hs3 hs4 hs5)).symm)
 have hs5f : (ixB p.states.length xs[1]) = false := by simpa using hs5
 refine Yw (dM (mT 1 (Zc xs)) (dC (ZA (off := 0 * 1) (.tmp 18) (.const (.int .i64 0)) rfl U24 (by kernel_rfl) (by omega) (by omega) rfl) I0 I0 (dA (Zz (X := iv xs[0]) (.tmp 19) rfl U3 rfl (Yc xs (by omega))) I0 (dA (fb 2 2 U27 1) I0 (dB (lb (Y3 p.states) 21 U22) I0 rfl (dA (Zs (.tmp 22) rfl U22) I0 (dD (Zj (c := .func 74) (xs := #[.tmp 20, .tmp 23]) [] (Z6 (isIndex_c xs[0] p.states.length HP.lstates) hs4) rfl (by kernel_rfl) rfl (Xs := [iv xs[0], iv p.states.length]) rfl rfl rfl) I0 I0 I0 (dA (Yb rfl rfl) I0 (dM (mT 25 (bv false)) (dM (mT 1 (Zc xs)) (dC (ZA (off := 1 * 1) (.tmp 27) (.const (.int .i64 1)) rfl U24 (by kernel_rfl) (by omega) (by omega) rfl) I0 I0 (dA (Zz (X := iv xs[1]) (.tmp 28) rfl U3 rfl (Yc xs (by omega))) I0 (dA (fb 2 2 U27 1) I0 (dB (lb (Y3 p.states) 30 U22) I0 rfl (dA (Zs (.tmp 31) rfl U22) I0 (dD (Zj (c := .func 74) (xs := #[.tmp 29, .tmp 32]) [] (Z6 (isIndex_c xs[1] p.states.length HP.lstates) hs5f) rfl (by kernel_rfl) rfl (Xs := [iv xs[1], iv p.states.length]) rfl rfl rfl) I0 I0 I0 (dA (Yb rfl rfl) I0 (dP (Zt (.tmp 26) (.const (.bool true)) (.tmp 34) false (bv true) (bv true) rfl) (dM (aT 35 (bv true)) (dE ?_)))))))))))))))))))) (by kernel_rfl)
 show ETri J w0 _ _ _
 refine kW 36 [] [(4, iv 0), (17, bv true)] (Zd (Zu rfl (Zb (Za (pM (aC (.int .i64 5)) (Zr (Zd (Zl (Zk (Zh ?_))))))))))
 refine Zn Try.results115 (.tmp rfl) ?_
 exact congrArg (fun x : Int => AV.v (.int .i64 x)) ((adj_5 hs1 hs2 hs3 (k := 1) (by omega) hs5f).symm)
 have hs4f : (ixB p.states.length xs[0]) = false := by simpa using hs4
 refine Yw (dM (mT 1 (Zc xs)) (dC (ZA (off := 0 * 1) (.tmp 18) (.const (.int .i64 0)) rfl U24 (by kernel_rfl) (by omega) (by omega) rfl) I0 I0 (dA (Zz (X := iv xs[0]) (.tmp 19) rfl U3 rfl (Yc xs (by omega))) I0 (dA (fb 2 2 U27 1) I0 (dB (lb (Y3 p.states) 21 U22) I0 rfl (dA (Zs (.tmp 22) rfl U22) I0 (dD (Zj (c := .func 74) (xs := #[.tmp 20, .tmp 23]) [] (Z6 (isIndex_c xs[0] p.states.length HP.lstates) hs4f) rfl (by kernel_rfl) rfl (Xs := [iv xs[0], iv p.states.length]) rfl rfl rfl) I0 I0 I0 (dA (Yb rfl rfl) I0 (dM (mT 25 (bv true)) (dK (dK (dK (dK (dK (dK (dK (dK (dP (Zt (.tmp 26) (.const (.bool true)) (.tmp 34) true (bv true) (.v (.tuple #[])) rfl) (dM (aT 35 (bv true)) (dE ?_)))))))))))))))))))) (by kernel_rfl)
 show ETri J w0 _ _ _
 refine kW 36 [] [(4, iv 0), (17, bv true)] (Zd (Zu rfl (Zb (Za (pM (aC (.int .i64 5)) (Zr (Zd (Zl (Zk (Zh ?_))))))))))
 refine Zn Try.results115 (.tmp rfl) ?_
 exact congrArg (fun x : Int => AV.v (.int .i64 x)) ((adj_5 hs1 hs2 hs3 (k := 0) (by omega) hs4f).symm)
 refine Za (pM (mT 1 (Zc xs)) (oA (Zs (.tmp 14) rfl U24) I0 (oC (Z8 rfl (dF' hs3)) I0 I0 (pM (aT 16 (bv true)) (kN 36 [(1, .box 27 (cFm p))] [(1, Zc xs), (2, .box 1 0), (4, iv 0), (13, bv true)] (Zd (Zu rfl (Zb (Za (pM (aC (.int .i64 1)) (Zr ?_)))))))))))
 refine Zd (Zl (Zk (Zh ?_)))
 refine Zn Try.results115 (.tmp rfl) ?_
 exact congrArg (fun x : Int => AV.v (.int .i64 x)) ((adj_1 hs1 hs2 hs3).symm)
theorem badError_c {p : Fm} (HP : FmOk p) {q : Pq} (HQ : PqOk q) : Ctr Try.prog J 84 [.agg (cFm p), .agg (cPq q)] (iv (badE p q)) := by
 have l1 := HQ.lbad
 refine Zy Try.func84 rfl (by intro X hX; simp only [List.mem_cons, List.not_mem_nil, or_false] at hX; rcases hX with rfl | rfl; exact Zx (Yi p); exact Zx (Yt q)) (n := 47) rfl (by simp) (fun w0 => ?_)
 refine kW 47 [] [(0, .agg (cFm p)), (1, .agg (cPq q))] (Zb (Za (Z9 rfl (ZT (X := .agg (cFm p)) (k := 1) (.tmp 0) rfl rfl) ⟨I0, T0⟩ T0 rfl (Z9 rfl (ZT (X := .agg (cPq q)) (k := 2) (.tmp 1) rfl rfl) ⟨I0, T0⟩ T0 rfl (pM (aC (.int .i64 0)) (kN 47 [(1, .box 27 (cFm p)), (2, .box 30 (cPq q))] [(2, .box 1 0), (3, .box 2 0), (4, iv 0)] (Zd (Zb (Zb ?_)))))))))
 by_cases hs1 : ((q.bad.length : Nat) : Int) = 0
 by_cases hs2 : ((q.adj.length : Nat) : Int) = 0
 refine Za (oA (fb 3 3 U30 1) I0 (oB (lb (slA 2 cRw q.bad) 8 U28) I0 rfl (oA (Zs (.tmp 9) rfl U28) I0 (oC (ZM rfl (dT hs1)) I0 I0 (pM (mT 11 (bv true)) (gA (fb 4 3 U30 1) I0 (gB (lb (Zc q.adj) 13 U24) I0 rfl (gA (Zs (.tmp 14) rfl U24) I0 (gC (ZM rfl (dT hs2)) I0 I0 (pP (Zt (.tmp 12) (.tmp 16) (.const (.bool false)) true (bv true) (bv false) rfl) (kN 47 [(1, .box 27 (cFm p)), (2, .box 30 (cPq q))] [(2, .box 1 0), (3, .box 2 0), (4, iv 0), (17, bv true)] ?_)))))))))))
 refine Zd (Zu rfl (Zb (Za (pM (aC (.int .i64 1)) (Zr (Zd (Zl (Zh ?_))))))))
 refine Zn Try.results84 (.tmp rfl) ?_
 exact congrArg (fun x : Int => AV.v (.int .i64 x)) ((bad_0 hs1 hs2).symm)
 refine Za (oA (fb 3 3 U30 1) I0 (oB (lb (slA 2 cRw q.bad) 8 U28) I0 rfl (oA (Zs (.tmp 9) rfl U28) I0 (oC (ZM rfl (dT hs1)) I0 I0 (pM (mT 11 (bv true)) (gA (fb 4 3 U30 1) I0 (gB (lb (Zc q.adj) 13 U24) I0 rfl (gA (Zs (.tmp 14) rfl U24) I0 (gC (ZM rfl (dF hs2)) I0 I0 (pP (Zt (.tmp 12) (.tmp 16) (.const (.bool false)) true (bv false) (bv false) rfl) (kN 47 [(1, .box 27 (cFm p)), (2, .box 30 (cPq q))] [(2, .box 1 0), (3, .box 2 0), (4, iv 0), (17, bv false)] ?_)))))))))))
 refine Zd (Zq rfl (Zm (Zd (Zb (Zb (Za (oA (fb 3 3 U30 1) I0 (oB (lb (slA 2 cRw q.bad) 18 U28) I0 rfl (oA (Zs (.tmp 19) rfl U28) I0 (oC (sp_gtr rfl (dF (show ¬ 3 < ((q.bad.length : Nat) : Int) by omega))) I0 I0 (kN 47 [(1, .box 27 (cFm p)), (2, .box 30 (cPq q))] [(2, .box 1 0), (3, .box 2 0), (4, iv 0), (21, bv false)] ?_)))))))))))
 refine Zd (Zq rfl (Zm (Zd (Zb (Zb (Za (oA (fb 3 3 U30 1) I0 (oB (lb (slA 2 cRw q.bad) 22 U28) I0 rfl (oA (Zs (.tmp 23) rfl U28) I0 (pM (YH (.const (.int .i64 0)) (iv 0) rfl) (kN 47 [(1, .box 27 (cFm p)), (2, .box 30 (cPq q))] [(2, .box 1 0), (3, .box 2 0), (4, iv 0), (23, slA 2 cRw q.bad), (24, iv q.bad.length), (25, iv 0)] ?_)))))))))))
 refine Zd ?_
 refine t_cut (cntOk p.states.length q.bad q.bad.length) (ofL [(1, .box 27 (cFm p)), (2, .box 30 (cPq q))]) (ofT 47 [(2, .box 1 0), (3, .box 2 0)]) ?_ (fun CNT => ?_)
 refine ZC ?_
 refine Yk (σ := {k : Nat // k ≤ q.bad.length ∧ cntOk p.states.length q.bad k}) (fun s => (ofL [(1, .box 27 (cFm p)), (2, .box 30 (cPq q))], ofT 47 [(2, .box 1 0), (3, .box 2 0), (23, slA 2 cRw q.bad), (24, iv q.bad.length), (25, iv s.1)])) (fun s => q.bad.length - s.1) ⟨0, Nat.zero_le _, cntOk_zero _ _⟩ (ZL _ _ rfl (by kernel_rfl) (by kernel_rfl)) (fun s => ?_)
 obtain ⟨k, hk0, hs0⟩ := s
 show ETri J w0 (ofL [(1, .box 27 (cFm p)), (2, .box 30 (cPq q))]) (ofT 47 [(2, .box 1 0), (3, .box 2 0), (23, slA 2 cRw q.bad), (24, iv q.bad.length), (25, iv k)]) _
 refine Zb ?_
 by_cases hs3 : ((k : Nat) : Int) < ((q.bad.length : Nat) : Int)
 refine Za (oC (Z4 rfl (dT hs3)) I0 I0 (kN 47 [(1, .box 27 (cFm p)), (2, .box 30 (cPq q))] [(2, .box 1 0), (3, .box 2 0), (23, slA 2 cRw q.bad), (24, iv q.bad.length), (25, iv k), (26, bv true)] (Zd (Zb (Zu rfl (Zm (Zd (Zb (ZC (Zb (Za ?_)))))))))))
 refine oC (ZA (off := k * 2) (.tmp 23) (.tmp 25) rfl U28 (by kernel_rfl) (by omega) (by omega) rfl) I0 I0 (oA (sp_loadElS (z := 2) (.tmp 27) rfl U53 rfl (by kernel_rfl) (flat_take lenRw q.bad k (by omega)) rfl) I0 (Z9 rfl (Kk (z := .agg #[.slice none 0 0, .int .i64 0]) (k := 3) rfl (by kernel_rfl)) T0 T0 rfl (Z9 rfl (Z7 (T0 := 53) (X := .agg (cRw q.bad[k])) (cs := [.v (.slice none 0 0), iv 0]) (ds := cRw q.bad[k]) (z := 2) (.tmp 6) (.tmp 28) rfl (by kernel_rfl) (by kernel_rfl) (by kernel_rfl) (of_decide_eq_true (by kernel_rfl)) (by kernel_rfl)) ⟨I0, I0, T0⟩ ⟨rfl, T0⟩ rfl (kN 47 [(1, .box 27 (cFm p)), (2, .box 30 (cPq q)), (3, .box 53 (cRw q.bad[k]))] [(2, .box 1 0), (3, .box 2 0), (6, .box 3 0), (23, slA 2 cRw q.bad), (24, iv q.bad.length), (25, iv k), (26, bv true)] (Zd (Zb (Zb (Za (oA (fb 0 6 U53 1) I0 (oB (lb (Zc q.bad[k].1) 29 U24) I0 rfl (oA (fb 2 2 U27 1) I0 ?_)))))))))))
 refine oB (lb (Y3 p.states) 31 U22) I0 rfl (oA (Zs (.tmp 32) rfl U22) I0 (oD (Zj (c := .func 49) (xs := #[.tmp 30, .tmp 33]) [] (Kr p.states.length HP.lstates q.bad[k].1 (HQ.bad q.bad[k] (List.getElem_mem (by omega))).1) rfl (by kernel_rfl) rfl (Xs := [Zc q.bad[k].1, iv p.states.length]) rfl rfl rfl) I0 I0 I0 (pM (aT 34 (iv (someE p.states.length q.bad[k].1))) (kN 47 [(1, .box 27 (cFm p)), (2, .box 30 (cPq q)), (3, .box 53 (cRw q.bad[k]))] [(2, .box 1 0), (3, .box 2 0), (6, .box 3 0), (7, iv (someE p.states.length q.bad[k].1)), (23, slA 2 cRw q.bad), (24, iv q.bad.length), (25, iv k), (26, bv true)] (Zd (Zb ?_))))))
 by_cases hs4 : someE p.states.length q.bad[k].1 = 0
 refine Za (pM (mT 7 (iv (someE p.states.length q.bad[k].1))) (oC (Z8 rfl (dT' hs4)) I0 I0 (kN 47 [(1, .box 27 (cFm p)), (2, .box 30 (cPq q)), (3, .box 53 (cRw q.bad[k]))] [(2, .box 1 0), (3, .box 2 0), (6, .box 3 0), (7, iv (someE p.states.length q.bad[k].1)), (23, slA 2 cRw q.bad), (24, iv q.bad.length), (25, iv k), (26, bv true), (36, bv false)] (Zd (Zq rfl (Zm (Zd (Zb ?_))))))))
 by_cases hs5 : (inB 1 3 q.bad[k].2) = true
 refine Za (oA (fb 1 6 U53 1) I0 (oB (lb (iv q.bad[k].2) 38 U3) I0 rfl (Z9 rfl (Zj (c := .func 42) (xs := #[.tmp 39, .const (.int .i64 1), .const (.int .i64 3)]) [] (Z6 (between_c q.bad[k].2 1 3) hs5) rfl (by kernel_rfl) rfl (Xs := [iv q.bad[k].2, iv 1, iv 3]) rfl rfl rfl) ⟨I0, I0, I0, I0, T0⟩ T0 T0 (oA (Yb rfl rfl) I0 (kN 47 [(1, .box 27 (cFm p)), (2, .box 30 (cPq q)), (3, .box 53 (cRw q.bad[k]))] [(2, .box 1 0), (3, .box 2 0), (6, .box 3 0), (7, iv (someE p.states.length q.bad[k].1)), (23, slA 2 cRw q.bad), (24, iv q.bad.length), (25, iv k), (26, bv true), (36, bv false), (41, bv false)] (Zd (Zq rfl (Zm (Yg (Zd (Za ?_)))))))))))
 refine oC (Yz (c := ((k + 1 : Nat) : Int)) rfl (w64 (by omega) (by omega) (by omega))) I0 I0 (pM (mT 42 (iv (k + 1 : Nat))) (kN 47 [(1, .box 27 (cFm p)), (2, .box 30 (cPq q)), (3, .box 53 (cRw q.bad[k]))] [(2, .box 1 0), (3, .box 2 0), (6, .box 3 0), (7, iv (someE p.states.length q.bad[k].1)), (23, slA 2 cRw q.bad), (24, iv q.bad.length), (25, iv (k + 1 : Nat)), (26, bv true), (36, bv false), (41, bv false)] (Zd ?_)))
 refine ZY ⟨k + 1, by omega, cntOk_succ (by omega) hs0 (cnt_0 (some_z hs4).1 (some_z hs4).2 hs5)⟩ (show q.bad.length - (k + 1) < q.bad.length - k by omega) ?_
 exact ZL _ _ rfl (by kernel_rfl) (by kernel_rfl)
 have hs5f : (inB 1 3 q.bad[k].2) = false := by simpa using hs5
 refine Za (oA (fb 1 6 U53 1) I0 (oB (lb (iv q.bad[k].2) 38 U3) I0 rfl (Z9 rfl (Zj (c := .func 42) (xs := #[.tmp 39, .const (.int .i64 1), .const (.int .i64 3)]) [] (Z6 (between_c q.bad[k].2 1 3) hs5f) rfl (by kernel_rfl) rfl (Xs := [iv q.bad[k].2, iv 1, iv 3]) rfl rfl rfl) ⟨I0, I0, I0, I0, T0⟩ T0 T0 (oA (Yb rfl rfl) I0 (kN 47 [(1, .box 27 (cFm p)), (2, .box 30 (cPq q)), (3, .box 53 (cRw q.bad[k]))] [(2, .box 1 0), (3, .box 2 0), (6, .box 3 0), (7, iv (someE p.states.length q.bad[k].1)), (23, slA 2 cRw q.bad), (24, iv q.bad.length), (25, iv k), (26, bv true), (36, bv false), (41, bv true)] (Zd (Zu rfl (Zb (Za (pM (aC (.int .i64 1)) (Zr ?_)))))))))))
 refine Zd (Zl (Zk (Zh (Zh (Zk (Kt (Zh ?_)))))))
 refine Zn Try.results84 (.tmp rfl) ?_
 exact congrArg (fun x : Int => AV.v (.int .i64 x)) ((bad_c ⟨(fun h => hs2 h.2), (show ¬ 3 < ((q.bad.length : Nat) : Int) by omega)⟩ (k := k) (by omega) hs0 (cnt_b (some_z hs4).1 (some_z hs4).2 hs5f) (by decide)).symm)
 refine Za (pM (mT 7 (iv (someE p.states.length q.bad[k].1))) (oC (Z8 rfl (dF' hs4)) I0 I0 (kN 47 [(1, .box 27 (cFm p)), (2, .box 30 (cPq q)), (3, .box 53 (cRw q.bad[k]))] [(2, .box 1 0), (3, .box 2 0), (6, .box 3 0), (7, iv (someE p.states.length q.bad[k].1)), (23, slA 2 cRw q.bad), (24, iv q.bad.length), (25, iv k), (26, bv true), (36, bv true)] (Zd (Zu rfl (Zb (Za (pM (mT 7 (iv (someE p.states.length q.bad[k].1))) (pM (aT 37 (iv (someE p.states.length q.bad[k].1))) (Zr (Zd ?_)))))))))))
 refine Zl (Zh (Zk (Zh (Zh (Zk (Kt (Zh ?_)))))))
 refine Zn Try.results84 (.tmp rfl) ?_
 exact congrArg (fun x : Int => AV.v (.int .i64 x)) ((bad_c ⟨(fun h => hs2 h.2), (show ¬ 3 < ((q.bad.length : Nat) : Int) by omega)⟩ (k := k) (by omega) hs0 (some_ne hs4) hs4).symm)
 refine Za (oC (Z4 rfl (dF hs3)) I0 I0 (kN 47 [(1, .box 27 (cFm p)), (2, .box 30 (cPq q))] [(2, .box 1 0), (3, .box 2 0), (23, slA 2 cRw q.bad), (24, iv q.bad.length), (25, iv k), (26, bv false)] (Zd (Zb (Zq rfl (Yo (Zv (Zv (t_hit ?_)))))))))
 exact t_meet (by have : k = q.bad.length := (by omega); subst this; exact hs0) (ZL _ _ rfl (by kernel_rfl) (by kernel_rfl))
 refine Zd (Zb (Za (oB (Zf (Y := .box 27 (cFm p)) (ds := cFm p) (z := 10) (.tmp 2) rfl U27 rfl (by kernel_rfl) (by decide) (by kernel_rfl) (by kernel_rfl)) I0 rfl (oA (fb 4 3 U30 1) I0 (oB (lb (Zc q.adj) 44 U24) I0 rfl (oD (Zj (c := .func 115) (xs := #[.tmp 43, .tmp 45]) [] (adjacent_c HP q.adj) rfl (by kernel_rfl) rfl (Xs := [.agg (cFm p), Zc q.adj]) rfl rfl rfl) I0 I0 I0 (pM (aT 46 (iv (adjE p q.adj))) (Zr (Zd (Zl ?_))))))))))
 refine Zn Try.results84 (.tmp rfl) ?_
 exact congrArg (fun x : Int => AV.v (.int .i64 x)) ((bad_z ⟨(fun h => hs2 h.2), (show ¬ 3 < ((q.bad.length : Nat) : Int) by omega)⟩ CNT).symm)
 refine Za (oA (fb 3 3 U30 1) I0 (oB (lb (slA 2 cRw q.bad) 8 U28) I0 rfl (oA (Zs (.tmp 9) rfl U28) I0 (oC (ZM rfl (dF hs1)) I0 I0 (pM (mT 11 (bv false)) (qK (qK (qK (qK (pP (Zt (.tmp 12) (.tmp 16) (.const (.bool false)) false (.v (.tuple #[])) (bv false) rfl) (kN 47 [(1, .box 27 (cFm p)), (2, .box 30 (cPq q))] [(2, .box 1 0), (3, .box 2 0), (4, iv 0), (17, bv false)] ?_)))))))))))
 refine Zd (Zq rfl (Zm (Zd (Zb (Zb ?_)))))
 by_cases hs6 : 3 < ((q.bad.length : Nat) : Int)
 refine Za (oA (fb 3 3 U30 1) I0 (oB (lb (slA 2 cRw q.bad) 18 U28) I0 rfl (oA (Zs (.tmp 19) rfl U28) I0 (oC (sp_gtr rfl (dT hs6)) I0 I0 (kN 47 [(1, .box 27 (cFm p)), (2, .box 30 (cPq q))] [(2, .box 1 0), (3, .box 2 0), (4, iv 0), (21, bv true)] (Zd (Zu rfl (Zb (Za (pM (aC (.int .i64 4)) (Zr ?_)))))))))))
 refine Zd (Zl (Zh ?_))
 refine Zn Try.results84 (.tmp rfl) ?_
 exact congrArg (fun x : Int => AV.v (.int .i64 x)) ((bad_4 (fun h => hs1 h.1) hs6).symm)
 refine Za (oA (fb 3 3 U30 1) I0 (oB (lb (slA 2 cRw q.bad) 18 U28) I0 rfl (oA (Zs (.tmp 19) rfl U28) I0 (oC (sp_gtr rfl (dF hs6)) I0 I0 (kN 47 [(1, .box 27 (cFm p)), (2, .box 30 (cPq q))] [(2, .box 1 0), (3, .box 2 0), (4, iv 0), (21, bv false)] (Zd (Zq rfl (Zm (Zd (Zb (Zb ?_)))))))))))
 refine Za (oA (fb 3 3 U30 1) I0 (oB (lb (slA 2 cRw q.bad) 22 U28) I0 rfl (oA (Zs (.tmp 23) rfl U28) I0 (pM (YH (.const (.int .i64 0)) (iv 0) rfl) (kN 47 [(1, .box 27 (cFm p)), (2, .box 30 (cPq q))] [(2, .box 1 0), (3, .box 2 0), (4, iv 0), (23, slA 2 cRw q.bad), (24, iv q.bad.length), (25, iv 0)] (Zd ?_))))))
 refine t_cut (cntOk p.states.length q.bad q.bad.length) (ofL [(1, .box 27 (cFm p)), (2, .box 30 (cPq q))]) (ofT 47 [(2, .box 1 0), (3, .box 2 0)]) ?_ (fun CNT => ?_)
 refine ZC ?_
 refine Yk (σ := {k : Nat // k ≤ q.bad.length ∧ cntOk p.states.length q.bad k}) (fun s => (ofL [(1, .box 27 (cFm p)), (2, .box 30 (cPq q))], ofT 47 [(2, .box 1 0), (3, .box 2 0), (23, slA 2 cRw q.bad), (24, iv q.bad.length), (25, iv s.1)])) (fun s => q.bad.length - s.1) ⟨0, Nat.zero_le _, cntOk_zero _ _⟩ (ZL _ _ rfl (by kernel_rfl) (by kernel_rfl)) (fun s => ?_)
 obtain ⟨k, hk0, hs0⟩ := s
 show ETri J w0 (ofL [(1, .box 27 (cFm p)), (2, .box 30 (cPq q))]) (ofT 47 [(2, .box 1 0), (3, .box 2 0), (23, slA 2 cRw q.bad), (24, iv q.bad.length), (25, iv k)]) _
 refine Zb ?_
 by_cases hs7 : ((k : Nat) : Int) < ((q.bad.length : Nat) : Int)
 refine Za (oC (Z4 rfl (dT hs7)) I0 I0 (kN 47 [(1, .box 27 (cFm p)), (2, .box 30 (cPq q))] [(2, .box 1 0), (3, .box 2 0), (23, slA 2 cRw q.bad), (24, iv q.bad.length), (25, iv k), (26, bv true)] (Zd (Zb (Zu rfl (Zm (Zd (Zb (ZC (Zb (Za ?_)))))))))))
 refine oC (ZA (off := k * 2) (.tmp 23) (.tmp 25) rfl U28 (by kernel_rfl) (by omega) (by omega) rfl) I0 I0 (oA (sp_loadElS (z := 2) (.tmp 27) rfl U53 rfl (by kernel_rfl) (flat_take lenRw q.bad k (by omega)) rfl) I0 (Z9 rfl (Kk (z := .agg #[.slice none 0 0, .int .i64 0]) (k := 3) rfl (by kernel_rfl)) T0 T0 rfl (Z9 rfl (Z7 (T0 := 53) (X := .agg (cRw q.bad[k])) (cs := [.v (.slice none 0 0), iv 0]) (ds := cRw q.bad[k]) (z := 2) (.tmp 6) (.tmp 28) rfl (by kernel_rfl) (by kernel_rfl) (by kernel_rfl) (of_decide_eq_true (by kernel_rfl)) (by kernel_rfl)) ⟨I0, I0, T0⟩ ⟨rfl, T0⟩ rfl (kN 47 [(1, .box 27 (cFm p)), (2, .box 30 (cPq q)), (3, .box 53 (cRw q.bad[k]))] [(2, .box 1 0), (3, .box 2 0), (6, .box 3 0), (23, slA 2 cRw q.bad), (24, iv q.bad.length), (25, iv k), (26, bv true)] (Zd (Zb (Zb (Za (oA (fb 0 6 U53 1) I0 (oB (lb (Zc q.bad[k].1) 29 U24) I0 rfl (oA (fb 2 2 U27 1) I0 ?_)))))))))))
 refine oB (lb (Y3 p.states) 31 U22) I0 rfl (oA (Zs (.tmp 32) rfl U22) I0 (oD (Zj (c := .func 49) (xs := #[.tmp 30, .tmp 33]) [] (Kr p.states.length HP.lstates q.bad[k].1 (HQ.bad q.bad[k] (List.getElem_mem (by omega))).1) rfl (by kernel_rfl) rfl (Xs := [Zc q.bad[k].1, iv p.states.length]) rfl rfl rfl) I0 I0 I0 (pM (aT 34 (iv (someE p.states.length q.bad[k].1))) (kN 47 [(1, .box 27 (cFm p)), (2, .box 30 (cPq q)), (3, .box 53 (cRw q.bad[k]))] [(2, .box 1 0), (3, .box 2 0), (6, .box 3 0), (7, iv (someE p.states.length q.bad[k].1)), (23, slA 2 cRw q.bad), (24, iv q.bad.length), (25, iv k), (26, bv true)] (Zd (Zb ?_))))))
 by_cases hs8 : someE p.states.length q.bad[k].1 = 0
 refine Za (pM (mT 7 (iv (someE p.states.length q.bad[k].1))) (oC (Z8 rfl (dT' hs8)) I0 I0 (kN 47 [(1, .box 27 (cFm p)), (2, .box 30 (cPq q)), (3, .box 53 (cRw q.bad[k]))] [(2, .box 1 0), (3, .box 2 0), (6, .box 3 0), (7, iv (someE p.states.length q.bad[k].1)), (23, slA 2 cRw q.bad), (24, iv q.bad.length), (25, iv k), (26, bv true), (36, bv false)] (Zd (Zq rfl (Zm (Zd (Zb ?_))))))))
 by_cases hs9 : (inB 1 3 q.bad[k].2) = true
 refine Za (oA (fb 1 6 U53 1) I0 (oB (lb (iv q.bad[k].2) 38 U3) I0 rfl (Z9 rfl (Zj (c := .func 42) (xs := #[.tmp 39, .const (.int .i64 1), .const (.int .i64 3)]) [] (Z6 (between_c q.bad[k].2 1 3) hs9) rfl (by kernel_rfl) rfl (Xs := [iv q.bad[k].2, iv 1, iv 3]) rfl rfl rfl) ⟨I0, I0, I0, I0, T0⟩ T0 T0 (oA (Yb rfl rfl) I0 (kN 47 [(1, .box 27 (cFm p)), (2, .box 30 (cPq q)), (3, .box 53 (cRw q.bad[k]))] [(2, .box 1 0), (3, .box 2 0), (6, .box 3 0), (7, iv (someE p.states.length q.bad[k].1)), (23, slA 2 cRw q.bad), (24, iv q.bad.length), (25, iv k), (26, bv true), (36, bv false), (41, bv false)] (Zd (Zq rfl (Zm (Yg (Zd (Za ?_)))))))))))
 refine oC (Yz (c := ((k + 1 : Nat) : Int)) rfl (w64 (by omega) (by omega) (by omega))) I0 I0 (pM (mT 42 (iv (k + 1 : Nat))) (kN 47 [(1, .box 27 (cFm p)), (2, .box 30 (cPq q)), (3, .box 53 (cRw q.bad[k]))] [(2, .box 1 0), (3, .box 2 0), (6, .box 3 0), (7, iv (someE p.states.length q.bad[k].1)), (23, slA 2 cRw q.bad), (24, iv q.bad.length), (25, iv (k + 1 : Nat)), (26, bv true), (36, bv false), (41, bv false)] (Zd ?_)))
 refine ZY ⟨k + 1, by omega, cntOk_succ (by omega) hs0 (cnt_0 (some_z hs8).1 (some_z hs8).2 hs9)⟩ (show q.bad.length - (k + 1) < q.bad.length - k by omega) ?_
 exact ZL _ _ rfl (by kernel_rfl) (by kernel_rfl)
 have hs9f : (inB 1 3 q.bad[k].2) = false := by simpa using hs9
 refine Za (oA (fb 1 6 U53 1) I0 (oB (lb (iv q.bad[k].2) 38 U3) I0 rfl (Z9 rfl (Zj (c := .func 42) (xs := #[.tmp 39, .const (.int .i64 1), .const (.int .i64 3)]) [] (Z6 (between_c q.bad[k].2 1 3) hs9f) rfl (by kernel_rfl) rfl (Xs := [iv q.bad[k].2, iv 1, iv 3]) rfl rfl rfl) ⟨I0, I0, I0, I0, T0⟩ T0 T0 (oA (Yb rfl rfl) I0 (kN 47 [(1, .box 27 (cFm p)), (2, .box 30 (cPq q)), (3, .box 53 (cRw q.bad[k]))] [(2, .box 1 0), (3, .box 2 0), (6, .box 3 0), (7, iv (someE p.states.length q.bad[k].1)), (23, slA 2 cRw q.bad), (24, iv q.bad.length), (25, iv k), (26, bv true), (36, bv false), (41, bv true)] (Zd (Zu rfl (Zb (Za (pM (aC (.int .i64 1)) (Zr ?_)))))))))))
 refine Zd (Zl (Zk (Zh (Zh (Zk (Kt (Zh ?_)))))))
 refine Zn Try.results84 (.tmp rfl) ?_
 exact congrArg (fun x : Int => AV.v (.int .i64 x)) ((bad_c ⟨(fun h => hs1 h.1), hs6⟩ (k := k) (by omega) hs0 (cnt_b (some_z hs8).1 (some_z hs8).2 hs9f) (by decide)).symm)
 refine Za (pM (mT 7 (iv (someE p.states.length q.bad[k].1))) (oC (Z8 rfl (dF' hs8)) I0 I0 (kN 47 [(1, .box 27 (cFm p)), (2, .box 30 (cPq q)), (3, .box 53 (cRw q.bad[k]))] [(2, .box 1 0), (3, .box 2 0), (6, .box 3 0), (7, iv (someE p.states.length q.bad[k].1)), (23, slA 2 cRw q.bad), (24, iv q.bad.length), (25, iv k), (26, bv true), (36, bv true)] (Zd (Zu rfl (Zb (Za (pM (mT 7 (iv (someE p.states.length q.bad[k].1))) (pM (aT 37 (iv (someE p.states.length q.bad[k].1))) (Zr (Zd ?_)))))))))))
 refine Zl (Zh (Zk (Zh (Zh (Zk (Kt (Zh ?_)))))))
 refine Zn Try.results84 (.tmp rfl) ?_
 exact congrArg (fun x : Int => AV.v (.int .i64 x)) ((bad_c ⟨(fun h => hs1 h.1), hs6⟩ (k := k) (by omega) hs0 (some_ne hs8) hs8).symm)
 refine Za (oC (Z4 rfl (dF hs7)) I0 I0 (kN 47 [(1, .box 27 (cFm p)), (2, .box 30 (cPq q))] [(2, .box 1 0), (3, .box 2 0), (23, slA 2 cRw q.bad), (24, iv q.bad.length), (25, iv k), (26, bv false)] (Zd (Zb (Zq rfl (Yo (Zv (Zv (t_hit ?_)))))))))
 exact t_meet (by have : k = q.bad.length := (by omega); subst this; exact hs0) (ZL _ _ rfl (by kernel_rfl) (by kernel_rfl))
 refine Zd (Zb (Za (oB (Zf (Y := .box 27 (cFm p)) (ds := cFm p) (z := 10) (.tmp 2) rfl U27 rfl (by kernel_rfl) (by decide) (by kernel_rfl) (by kernel_rfl)) I0 rfl (oA (fb 4 3 U30 1) I0 (oB (lb (Zc q.adj) 44 U24) I0 rfl (oD (Zj (c := .func 115) (xs := #[.tmp 43, .tmp 45]) [] (adjacent_c HP q.adj) rfl (by kernel_rfl) rfl (Xs := [.agg (cFm p), Zc q.adj]) rfl rfl rfl) I0 I0 I0 (pM (aT 46 (iv (adjE p q.adj))) (Zr (Zd (Zl ?_))))))))))
 refine Zn Try.results84 (.tmp rfl) ?_
 exact congrArg (fun x : Int => AV.v (.int .i64 x)) ((bad_z ⟨(fun h => hs1 h.1), hs6⟩ CNT).symm)
theorem qValidateProperty_c {p : Fm} (HP : FmOk p) {q : Pq} (HQ : PqOk q) : Ctr Try.prog J 55 [.agg (cFm p), .agg (cPq q)] (iv (vpE p q)) := by
 have l1 := HQ.lstart
 refine Zy Try.func55 rfl (by intro X hX; simp only [List.mem_cons, List.not_mem_nil, or_false] at hX; rcases hX with rfl | rfl; exact Zx (Yi p); exact Zx (Yt q)) (n := 88) rfl (by simp) (fun w0 => ?_)
 refine kW 88 [] [(0, .agg (cFm p)), (1, .agg (cPq q))] (Zb (Za (Z9 rfl (ZT (X := .agg (cFm p)) (k := 1) (.tmp 0) rfl rfl) ⟨I0, T0⟩ T0 rfl (Z9 rfl (ZT (X := .agg (cPq q)) (k := 2) (.tmp 1) rfl rfl) ⟨I0, T0⟩ T0 rfl (pM (aC (.int .i64 0)) (kN 88 [(1, .box 27 (cFm p)), (2, .box 30 (cPq q))] [(2, .box 1 0), (3, .box 2 0), (4, iv 0)] (Zd (Zb (Zb (Za (oB (Zf (Y := .box 27 (cFm p)) (ds := cFm p) (z := 10) (.tmp 2) rfl U27 rfl (by kernel_rfl) (by decide) (by kernel_rfl) (by kernel_rfl)) I0 rfl ?_)))))))))))
 refine oC (Zj (c := .func 21) (xs := #[.tmp 9]) [] (Ke HP) rfl (by kernel_rfl) rfl (Xs := [.agg (cFm p)]) rfl rfl rfl) I0 I0 (pM (aT 10 (iv (valE p))) (kN 88 [(1, .box 27 (cFm p)), (2, .box 30 (cPq q))] [(2, .box 1 0), (3, .box 2 0), (4, iv 0), (5, iv (valE p))] (Zd (Zb ?_))))
 by_cases hs1 : valE p = 0
 refine Za (pM (mT 5 (iv (valE p))) (oC (Z8 rfl (dT' hs1)) I0 I0 (kN 88 [(1, .box 27 (cFm p)), (2, .box 30 (cPq q))] [(2, .box 1 0), (3, .box 2 0), (4, iv 0), (5, iv (valE p)), (12, bv false)] (Zd (Zq rfl (Zm (Zd (Zb (ZC (Zb ?_))))))))))
 by_cases hs2 : (nameB q.nm.toList) = true
 refine Za (oA (fb 0 3 U30 1) I0 (oB (lb (sv q.nm) 15 U9) I0 rfl (oC (Zj (c := .func 41) (xs := #[.tmp 16]) [] (Z6 (qValidName_c q.nm HQ.nm) hs2) rfl (by kernel_rfl) rfl (Xs := [sv q.nm]) rfl rfl rfl) I0 I0 (oA (Yb rfl rfl) I0 (pM (aT 18 (bv false)) (kN 88 [(1, .box 27 (cFm p)), (2, .box 30 (cPq q))] [(2, .box 1 0), (3, .box 2 0), (4, iv 0), (14, bv false)] (Zd (Zq rfl (Zb ?_)))))))))
 by_cases hs3 : q.kind = 1
 refine Za (oA (fb 1 3 U30 1) I0 (oB (lb (iv q.kind) 20 U3) I0 rfl (oC (Z8 rfl (dT' hs3)) I0 I0 (pM (mT 22 (bv false)) (qK (qK (qK (pP (Zt (.tmp 23) (.tmp 26) (.const (.bool false)) false (.v (.tuple #[])) (bv false) rfl) (pM (aT 27 (bv false)) (kN 88 [(1, .box 27 (cFm p)), (2, .box 30 (cPq q))] [(2, .box 1 0), (3, .box 2 0), (4, iv 0), (19, bv false)] (Zd ?_)))))))))))
 refine Zq rfl (Zb ?_)
 by_cases hs4 : 0 < ((q.goal.length : Nat) : Int)
 refine Za (oA (fb 1 3 U30 1) I0 (oB (lb (iv q.kind) 29 U3) I0 rfl (oC (ZM rfl (dT hs3)) I0 I0 (pM (mT 31 (bv true)) (gA (fb 5 3 U30 1) I0 (gB (lb (Zc q.goal) 33 U24) I0 rfl (gA (Zs (.tmp 34) rfl U24) I0 (gC (sp_gtr rfl (dT hs4)) I0 I0 (pP (Zt (.tmp 32) (.tmp 36) (.const (.bool false)) true (bv true) (bv false) rfl) (pM (aT 37 (bv true)) (kN 88 [(1, .box 27 (cFm p)), (2, .box 30 (cPq q))] [(2, .box 1 0), (3, .box 2 0), (4, iv 0), (28, bv true)] ?_)))))))))))
 refine Zd (Zu rfl (Zb (Za (pM (aC (.int .i64 1)) (Zr (Zd (Zl (Zk (Zh ?_)))))))))
 refine Zn Try.results55 (.tmp rfl) ?_
 exact congrArg (fun x : Int => AV.v (.int .i64 x)) (((vp_2 hs1 hs2).trans (v2_g hs3 hs4)).symm)
 refine Za (oA (fb 1 3 U30 1) I0 (oB (lb (iv q.kind) 29 U3) I0 rfl (oC (ZM rfl (dT hs3)) I0 I0 (pM (mT 31 (bv true)) (gA (fb 5 3 U30 1) I0 (gB (lb (Zc q.goal) 33 U24) I0 rfl (gA (Zs (.tmp 34) rfl U24) I0 (gC (sp_gtr rfl (dF hs4)) I0 I0 (pP (Zt (.tmp 32) (.tmp 36) (.const (.bool false)) true (bv false) (bv false) rfl) (pM (aT 37 (bv false)) (kN 88 [(1, .box 27 (cFm p)), (2, .box 30 (cPq q))] [(2, .box 1 0), (3, .box 2 0), (4, iv 0), (28, bv false)] ?_)))))))))))
 refine Zd (Zq rfl (Zb (Za (oA (fb 1 3 U30 1) I0 (oB (lb (iv q.kind) 39 U3) I0 rfl (oC (ZM rfl (dF (show ¬ q.kind = 2 by omega))) I0 I0 (pM (mT 41 (bv false)) (qK (qK (qK (qK ?_)))))))))))
 refine qK (qK (qK (qK (qK (qK (pP (Zt (.tmp 42) (.tmp 52) (.const (.bool false)) false (.v (.tuple #[])) (bv false) rfl) (pM (aT 53 (bv false)) (kN 88 [(1, .box 27 (cFm p)), (2, .box 30 (cPq q))] [(2, .box 1 0), (3, .box 2 0), (4, iv 0), (38, bv false)] (Zd (Zq rfl (Zm ?_)))))))))))
 refine Yg (Zd (Zb (Zb (Za (oA (fb 2 3 U30 1) I0 (oB (lb (Zc q.start) 54 U24) I0 rfl (oA (fb 2 2 U27 1) I0 (oB (lb (Y3 p.states) 56 U22) I0 rfl (oA (Zs (.tmp 57) rfl U22) I0 (oD (Zj (c := .func 50) (xs := #[.tmp 55, .tmp 58]) [] (setError_c p.states.length HP.lstates q.start HQ.start) rfl (by kernel_rfl) rfl (Xs := [Zc q.start, iv p.states.length]) rfl rfl rfl) I0 I0 I0 (pM (aT 59 (iv (setE p.states.length q.start))) ?_)))))))))))
 refine kN 88 [(1, .box 27 (cFm p)), (2, .box 30 (cPq q))] [(2, .box 1 0), (3, .box 2 0), (4, iv 0), (6, iv (setE p.states.length q.start))] (Zd (Zb ?_))
 by_cases hs5 : setE p.states.length q.start = 0
 refine Za (pM (mT 6 (iv (setE p.states.length q.start))) (oC (Z8 rfl (dT' hs5)) I0 I0 (kN 88 [(1, .box 27 (cFm p)), (2, .box 30 (cPq q))] [(2, .box 1 0), (3, .box 2 0), (4, iv 0), (6, iv (setE p.states.length q.start)), (61, bv false)] (Zd (Zq rfl (Zm (Zd (Zb (Zb (Za (oA (fb 2 3 U30 1) I0 ?_)))))))))))
 refine oB (lb (Zc q.start) 63 U24) I0 rfl (oA (Zs (.tmp 64) rfl U24) I0 (pM (YH (.const (.int .i64 0)) (iv 0) rfl) (kN 88 [(1, .box 27 (cFm p)), (2, .box 30 (cPq q))] [(2, .box 1 0), (3, .box 2 0), (4, iv 0), (64, Zc q.start), (65, iv q.start.length), (66, iv 0)] (Zd ?_))))
 refine t_cut (subB p.init q.start q.start.length = true) (ofL [(1, .box 27 (cFm p)), (2, .box 30 (cPq q))]) (ofT 88 [(2, .box 1 0), (3, .box 2 0)]) ?_ (fun SUB => ?_)
 refine ZC ?_
 refine Yk (σ := {k : Nat // k ≤ q.start.length ∧ subB p.init q.start k = true}) (fun s => (ofL [(1, .box 27 (cFm p)), (2, .box 30 (cPq q))], ofT 88 [(2, .box 1 0), (3, .box 2 0), (64, Zc q.start), (65, iv q.start.length), (66, iv s.1)])) (fun s => q.start.length - s.1) ⟨0, Nat.zero_le _, rfl⟩ (ZL _ _ rfl (by kernel_rfl) (by kernel_rfl)) (fun s => ?_)
 obtain ⟨k, hk0, hs0⟩ := s
 show ETri J w0 (ofL [(1, .box 27 (cFm p)), (2, .box 30 (cPq q))]) (ofT 88 [(2, .box 1 0), (3, .box 2 0), (64, Zc q.start), (65, iv q.start.length), (66, iv k)]) _
 refine Zb ?_
 by_cases hs6 : ((k : Nat) : Int) < ((q.start.length : Nat) : Int)
 refine Za (oC (Z4 rfl (dT hs6)) I0 I0 (kN 88 [(1, .box 27 (cFm p)), (2, .box 30 (cPq q))] [(2, .box 1 0), (3, .box 2 0), (64, Zc q.start), (65, iv q.start.length), (66, iv k), (67, bv true)] (Zd (Zb (Zu rfl (Zm (Zd (Zb (ZC (Zb (Za ?_)))))))))))
 refine oC (ZA (off := k * 1) (.tmp 64) (.tmp 66) rfl U24 (by kernel_rfl) (by omega) (by omega) rfl) I0 I0 (oA (Zz (X := iv q.start[k]) (.tmp 68) rfl U3 rfl (Yc q.start (by omega))) I0 (pM (aT 69 (iv q.start[k])) (kN 88 [(1, .box 27 (cFm p)), (2, .box 30 (cPq q))] [(2, .box 1 0), (3, .box 2 0), (8, iv q.start[k]), (64, Zc q.start), (65, iv q.start.length), (66, iv k), (67, bv true)] (Zd (Zb ?_)))))
 by_cases hs7 : (decide (q.start[k] ∈ p.init)) = true
 refine Za (oA (fb 7 2 U27 1) I0 (oB (lb (Zc p.init) 70 U24) I0 rfl (pM (mT 8 (iv q.start[k])) (oD (Zj (c := .func 56) (xs := #[.tmp 71, .tmp 72]) [] (Z6 (YE p.init q.start[k] HP.linit) hs7) rfl (by kernel_rfl) rfl (Xs := [Zc p.init, iv q.start[k]]) rfl rfl rfl) I0 I0 I0 (oA (Yb rfl rfl) I0 (kN 88 [(1, .box 27 (cFm p)), (2, .box 30 (cPq q))] [(2, .box 1 0), (3, .box 2 0), (8, iv q.start[k]), (64, Zc q.start), (65, iv q.start.length), (66, iv k), (67, bv true), (74, bv false)] (Zd (Zq rfl (Zm (Yg (Zd ?_)))))))))))
 refine Za (oC (Yz (c := ((k + 1 : Nat) : Int)) rfl (w64 (by omega) (by omega) (by omega))) I0 I0 (pM (mT 75 (iv (k + 1 : Nat))) (kN 88 [(1, .box 27 (cFm p)), (2, .box 30 (cPq q))] [(2, .box 1 0), (3, .box 2 0), (8, iv q.start[k]), (64, Zc q.start), (65, iv q.start.length), (66, iv (k + 1 : Nat)), (67, bv true), (74, bv false)] (Zd ?_))))
 refine ZY ⟨k + 1, by omega, subB_succ (by omega) hs0 hs7⟩ (show q.start.length - (k + 1) < q.start.length - k by omega) ?_
 exact ZL _ _ rfl (by kernel_rfl) (by kernel_rfl)
 have hs7f : (decide (q.start[k] ∈ p.init)) = false := by simpa using hs7
 refine Za (oA (fb 7 2 U27 1) I0 (oB (lb (Zc p.init) 70 U24) I0 rfl (pM (mT 8 (iv q.start[k])) (oD (Zj (c := .func 56) (xs := #[.tmp 71, .tmp 72]) [] (Z6 (YE p.init q.start[k] HP.linit) hs7f) rfl (by kernel_rfl) rfl (Xs := [Zc p.init, iv q.start[k]]) rfl rfl rfl) I0 I0 I0 (oA (Yb rfl rfl) I0 (kN 88 [(1, .box 27 (cFm p)), (2, .box 30 (cPq q))] [(2, .box 1 0), (3, .box 2 0), (8, iv q.start[k]), (64, Zc q.start), (65, iv q.start.length), (66, iv k), (67, bv true), (74, bv true)] (Zd (Zu rfl (Zb (Za (pM (aC (.int .i64 5)) ?_)))))))))))
 refine Zr (Zd (Zl (Zk (Zh (Zh (Zk (Kt (Zh ?_))))))))
 refine Zn Try.results55 (.tmp rfl) ?_
 exact congrArg (fun x : Int => AV.v (.int .i64 x)) (((vp_2 hs1 hs2).trans ((v2_1 hs3 hs4).trans (v3_i hs5 (k := k) (by omega) hs7f))).symm)
 refine Za (oC (Z4 rfl (dF hs6)) I0 I0 (kN 88 [(1, .box 27 (cFm p)), (2, .box 30 (cPq q))] [(2, .box 1 0), (3, .box 2 0), (64, Zc q.start), (65, iv q.start.length), (66, iv k), (67, bv false)] (Zd (Zb (Zq rfl (Yo (Zv (Zv (t_hit ?_)))))))))
 exact t_meet (by have : k = q.start.length := (by omega); subst this; exact hs0) (ZL _ _ rfl (by kernel_rfl) (by kernel_rfl))
 refine Zd (Zb (Zb (Za (oA (fb 1 3 U30 1) I0 (oB (lb (iv q.kind) 76 U3) I0 rfl (oC (ZM rfl (dF (show ¬ q.kind = 2 by omega))) I0 I0 (kN 88 [(1, .box 27 (cFm p)), (2, .box 30 (cPq q))] [(2, .box 1 0), (3, .box 2 0), (78, bv false)] (Zd (Zq rfl (Zm (Zd ?_)))))))))))
 refine Zb (Za (oB (Zf (Y := .box 27 (cFm p)) (ds := cFm p) (z := 10) (.tmp 2) rfl U27 rfl (by kernel_rfl) (by decide) (by kernel_rfl) (by kernel_rfl)) I0 rfl (oB (Zf (Y := .box 30 (cPq q)) (ds := cPq q) (z := 6) (.tmp 3) rfl U30 rfl (by kernel_rfl) (by decide) (by kernel_rfl) (by kernel_rfl)) I0 rfl (oD (Zj (c := .func 84) (xs := #[.tmp 85, .tmp 86]) [] (badError_c HP HQ) rfl (by kernel_rfl) rfl (Xs := [.agg (cFm p), .agg (cPq q)]) rfl rfl rfl) I0 I0 I0 (pM (aT 87 (iv (badE p q))) (Zr (Zd (Zl ?_))))))))
 refine Zn Try.results55 (.tmp rfl) ?_
 exact congrArg (fun x : Int => AV.v (.int .i64 x)) (((vp_2 hs1 hs2).trans ((v2_1 hs3 hs4).trans (v3_z hs5 SUB))).symm)
 refine Za (pM (mT 6 (iv (setE p.states.length q.start))) (oC (Z8 rfl (dF' hs5)) I0 I0 (kN 88 [(1, .box 27 (cFm p)), (2, .box 30 (cPq q))] [(2, .box 1 0), (3, .box 2 0), (4, iv 0), (6, iv (setE p.states.length q.start)), (61, bv true)] (Zd (Zu rfl (Zb (Za (pM (mT 6 (iv (setE p.states.length q.start))) (pM (aT 62 (iv (setE p.states.length q.start))) (Zr (Zd ?_)))))))))))
 refine Zl (Zh ?_)
 refine Zn Try.results55 (.tmp rfl) ?_
 exact congrArg (fun x : Int => AV.v (.int .i64 x)) (((vp_2 hs1 hs2).trans ((v2_1 hs3 hs4).trans (v3_s hs5))).symm)
 by_cases hs8 : q.kind = 2
 refine Za (oA (fb 1 3 U30 1) I0 (oB (lb (iv q.kind) 20 U3) I0 rfl (oC (Z8 rfl (dF' hs3)) I0 I0 (pM (mT 22 (bv true)) (gA (fb 1 3 U30 1) I0 (gB (lb (iv q.kind) 24 U3) I0 rfl (gC (Z8 rfl (dT' hs8)) I0 I0 (pP (Zt (.tmp 23) (.tmp 26) (.const (.bool false)) true (bv false) (bv false) rfl) (pM (aT 27 (bv false)) (kN 88 [(1, .box 27 (cFm p)), (2, .box 30 (cPq q))] [(2, .box 1 0), (3, .box 2 0), (4, iv 0), (19, bv false)] (Zd ?_)))))))))))
 refine Zq rfl (Zb (Za (oA (fb 1 3 U30 1) I0 (oB (lb (iv q.kind) 29 U3) I0 rfl (oC (ZM rfl (dF hs3)) I0 I0 (pM (mT 31 (bv false)) (qK (qK (qK (qK (pP (Zt (.tmp 32) (.tmp 36) (.const (.bool false)) false (.v (.tuple #[])) (bv false) rfl) ?_)))))))))))
 refine pM (aT 37 (bv false)) (kN 88 [(1, .box 27 (cFm p)), (2, .box 30 (cPq q))] [(2, .box 1 0), (3, .box 2 0), (4, iv 0), (28, bv false)] (Zd (Zq rfl (Zb ?_))))
 by_cases hs9 : 0 < ((q.bad.length : Nat) : Int)
 refine Za (oA (fb 1 3 U30 1) I0 (oB (lb (iv q.kind) 39 U3) I0 rfl (oC (ZM rfl (dT hs8)) I0 I0 (pM (mT 41 (bv true)) (gA (fb 3 3 U30 1) I0 (gB (lb (slA 2 cRw q.bad) 43 U28) I0 rfl (gA (Zs (.tmp 44) rfl U28) I0 (gC (sp_gtr rfl (dT hs9)) I0 I0 (qM (mT 46 (bv true)) (qK (qK ?_)))))))))))
 refine qK (qK (qP (Zt (.tmp 47) (.const (.bool true)) (.tmp 51) true (bv true) (.v (.tuple #[])) rfl) (pP (Zt (.tmp 42) (.tmp 52) (.const (.bool false)) true (bv true) (bv false) rfl) (pM (aT 53 (bv true)) (kN 88 [(1, .box 27 (cFm p)), (2, .box 30 (cPq q))] [(2, .box 1 0), (3, .box 2 0), (4, iv 0), (38, bv true)] (Zd (Zu rfl (Zb (Za (pM (aC (.int .i64 1)) (Zr ?_)))))))))))
 refine Zd (Zl (Zk (Zh ?_)))
 refine Zn Try.results55 (.tmp rfl) ?_
 exact congrArg (fun x : Int => AV.v (.int .i64 x)) (((vp_2 hs1 hs2).trans (v2_b hs3 hs8 hs9)).symm)
 by_cases hs10 : 0 < ((q.adj.length : Nat) : Int)
 refine Za (oA (fb 1 3 U30 1) I0 (oB (lb (iv q.kind) 39 U3) I0 rfl (oC (ZM rfl (dT hs8)) I0 I0 (pM (mT 41 (bv true)) (gA (fb 3 3 U30 1) I0 (gB (lb (slA 2 cRw q.bad) 43 U28) I0 rfl (gA (Zs (.tmp 44) rfl U28) I0 (gC (sp_gtr rfl (dF hs9)) I0 I0 (qM (mT 46 (bv false)) (gA (fb 4 3 U30 1) I0 (gB (lb (Zc q.adj) 48 U24) I0 rfl ?_)))))))))))
 refine gA (Zs (.tmp 49) rfl U24) I0 (gC (sp_gtr rfl (dT hs10)) I0 I0 (qP (Zt (.tmp 47) (.const (.bool true)) (.tmp 51) false (bv true) (bv true) rfl) (pP (Zt (.tmp 42) (.tmp 52) (.const (.bool false)) true (bv true) (bv false) rfl) (pM (aT 53 (bv true)) (kN 88 [(1, .box 27 (cFm p)), (2, .box 30 (cPq q))] [(2, .box 1 0), (3, .box 2 0), (4, iv 0), (38, bv true)] (Zd (Zu rfl (Zb (Za (pM (aC (.int .i64 1)) (Zr ?_)))))))))))
 refine Zd (Zl (Zk (Zh ?_)))
 refine Zn Try.results55 (.tmp rfl) ?_
 exact congrArg (fun x : Int => AV.v (.int .i64 x)) (((vp_2 hs1 hs2).trans (v2_a hs3 hs8 hs9 hs10)).symm)
 refine Za (oA (fb 1 3 U30 1) I0 (oB (lb (iv q.kind) 39 U3) I0 rfl (oC (ZM rfl (dT hs8)) I0 I0 (pM (mT 41 (bv true)) (gA (fb 3 3 U30 1) I0 (gB (lb (slA 2 cRw q.bad) 43 U28) I0 rfl (gA (Zs (.tmp 44) rfl U28) I0 (gC (sp_gtr rfl (dF hs9)) I0 I0 (qM (mT 46 (bv false)) (gA (fb 4 3 U30 1) I0 (gB (lb (Zc q.adj) 48 U24) I0 rfl ?_)))))))))))
 refine gA (Zs (.tmp 49) rfl U24) I0 (gC (sp_gtr rfl (dF hs10)) I0 I0 (qP (Zt (.tmp 47) (.const (.bool true)) (.tmp 51) false (bv true) (bv false) rfl) (pP (Zt (.tmp 42) (.tmp 52) (.const (.bool false)) true (bv false) (bv false) rfl) (pM (aT 53 (bv false)) (kN 88 [(1, .box 27 (cFm p)), (2, .box 30 (cPq q))] [(2, .box 1 0), (3, .box 2 0), (4, iv 0), (38, bv false)] (Zd (Zq rfl (Zm (Yg (Zd (Zb ?_)))))))))))
 refine Zb (Za (oA (fb 2 3 U30 1) I0 (oB (lb (Zc q.start) 54 U24) I0 rfl (oA (fb 2 2 U27 1) I0 (oB (lb (Y3 p.states) 56 U22) I0 rfl (oA (Zs (.tmp 57) rfl U22) I0 (oD (Zj (c := .func 50) (xs := #[.tmp 55, .tmp 58]) [] (setError_c p.states.length HP.lstates q.start HQ.start) rfl (by kernel_rfl) rfl (Xs := [Zc q.start, iv p.states.length]) rfl rfl rfl) I0 I0 I0 (pM (aT 59 (iv (setE p.states.length q.start))) (kN 88 [(1, .box 27 (cFm p)), (2, .box 30 (cPq q))] [(2, .box 1 0), (3, .box 2 0), (4, iv 0), (6, iv (setE p.states.length q.start))] (Zd (Zb ?_)))))))))))
 by_cases hs11 : setE p.states.length q.start = 0
 refine Za (pM (mT 6 (iv (setE p.states.length q.start))) (oC (Z8 rfl (dT' hs11)) I0 I0 (kN 88 [(1, .box 27 (cFm p)), (2, .box 30 (cPq q))] [(2, .box 1 0), (3, .box 2 0), (4, iv 0), (6, iv (setE p.states.length q.start)), (61, bv false)] (Zd (Zq rfl (Zm (Zd (Zb (Zb (Za (oA (fb 2 3 U30 1) I0 ?_)))))))))))
 refine oB (lb (Zc q.start) 63 U24) I0 rfl (oA (Zs (.tmp 64) rfl U24) I0 (pM (YH (.const (.int .i64 0)) (iv 0) rfl) (kN 88 [(1, .box 27 (cFm p)), (2, .box 30 (cPq q))] [(2, .box 1 0), (3, .box 2 0), (4, iv 0), (64, Zc q.start), (65, iv q.start.length), (66, iv 0)] (Zd ?_))))
 refine t_cut (subB p.init q.start q.start.length = true) (ofL [(1, .box 27 (cFm p)), (2, .box 30 (cPq q))]) (ofT 88 [(2, .box 1 0), (3, .box 2 0)]) ?_ (fun SUB => ?_)
 refine ZC ?_
 refine Yk (σ := {k : Nat // k ≤ q.start.length ∧ subB p.init q.start k = true}) (fun s => (ofL [(1, .box 27 (cFm p)), (2, .box 30 (cPq q))], ofT 88 [(2, .box 1 0), (3, .box 2 0), (64, Zc q.start), (65, iv q.start.length), (66, iv s.1)])) (fun s => q.start.length - s.1) ⟨0, Nat.zero_le _, rfl⟩ (ZL _ _ rfl (by kernel_rfl) (by kernel_rfl)) (fun s => ?_)
 obtain ⟨k, hk0, hs0⟩ := s
 show ETri J w0 (ofL [(1, .box 27 (cFm p)), (2, .box 30 (cPq q))]) (ofT 88 [(2, .box 1 0), (3, .box 2 0), (64, Zc q.start), (65, iv q.start.length), (66, iv k)]) _
 refine Zb ?_
 by_cases hs12 : ((k : Nat) : Int) < ((q.start.length : Nat) : Int)
 refine Za (oC (Z4 rfl (dT hs12)) I0 I0 (kN 88 [(1, .box 27 (cFm p)), (2, .box 30 (cPq q))] [(2, .box 1 0), (3, .box 2 0), (64, Zc q.start), (65, iv q.start.length), (66, iv k), (67, bv true)] (Zd (Zb (Zu rfl (Zm (Zd (Zb (ZC (Zb (Za ?_)))))))))))
 refine oC (ZA (off := k * 1) (.tmp 64) (.tmp 66) rfl U24 (by kernel_rfl) (by omega) (by omega) rfl) I0 I0 (oA (Zz (X := iv q.start[k]) (.tmp 68) rfl U3 rfl (Yc q.start (by omega))) I0 (pM (aT 69 (iv q.start[k])) (kN 88 [(1, .box 27 (cFm p)), (2, .box 30 (cPq q))] [(2, .box 1 0), (3, .box 2 0), (8, iv q.start[k]), (64, Zc q.start), (65, iv q.start.length), (66, iv k), (67, bv true)] (Zd (Zb ?_)))))
 by_cases hs13 : (decide (q.start[k] ∈ p.init)) = true
 refine Za (oA (fb 7 2 U27 1) I0 (oB (lb (Zc p.init) 70 U24) I0 rfl (pM (mT 8 (iv q.start[k])) (oD (Zj (c := .func 56) (xs := #[.tmp 71, .tmp 72]) [] (Z6 (YE p.init q.start[k] HP.linit) hs13) rfl (by kernel_rfl) rfl (Xs := [Zc p.init, iv q.start[k]]) rfl rfl rfl) I0 I0 I0 (oA (Yb rfl rfl) I0 (kN 88 [(1, .box 27 (cFm p)), (2, .box 30 (cPq q))] [(2, .box 1 0), (3, .box 2 0), (8, iv q.start[k]), (64, Zc q.start), (65, iv q.start.length), (66, iv k), (67, bv true), (74, bv false)] (Zd (Zq rfl (Zm (Yg (Zd ?_)))))))))))
 refine Za (oC (Yz (c := ((k + 1 : Nat) : Int)) rfl (w64 (by omega) (by omega) (by omega))) I0 I0 (pM (mT 75 (iv (k + 1 : Nat))) (kN 88 [(1, .box 27 (cFm p)), (2, .box 30 (cPq q))] [(2, .box 1 0), (3, .box 2 0), (8, iv q.start[k]), (64, Zc q.start), (65, iv q.start.length), (66, iv (k + 1 : Nat)), (67, bv true), (74, bv false)] (Zd ?_))))
 refine ZY ⟨k + 1, by omega, subB_succ (by omega) hs0 hs13⟩ (show q.start.length - (k + 1) < q.start.length - k by omega) ?_
 exact ZL _ _ rfl (by kernel_rfl) (by kernel_rfl)
 have hs13f : (decide (q.start[k] ∈ p.init)) = false := by simpa using hs13
 refine Za (oA (fb 7 2 U27 1) I0 (oB (lb (Zc p.init) 70 U24) I0 rfl (pM (mT 8 (iv q.start[k])) (oD (Zj (c := .func 56) (xs := #[.tmp 71, .tmp 72]) [] (Z6 (YE p.init q.start[k] HP.linit) hs13f) rfl (by kernel_rfl) rfl (Xs := [Zc p.init, iv q.start[k]]) rfl rfl rfl) I0 I0 I0 (oA (Yb rfl rfl) I0 (kN 88 [(1, .box 27 (cFm p)), (2, .box 30 (cPq q))] [(2, .box 1 0), (3, .box 2 0), (8, iv q.start[k]), (64, Zc q.start), (65, iv q.start.length), (66, iv k), (67, bv true), (74, bv true)] (Zd (Zu rfl (Zb (Za (pM (aC (.int .i64 5)) ?_)))))))))))
 refine Zr (Zd (Zl (Zk (Zh (Zh (Zk (Kt (Zh ?_))))))))
 refine Zn Try.results55 (.tmp rfl) ?_
 exact congrArg (fun x : Int => AV.v (.int .i64 x)) (((vp_2 hs1 hs2).trans ((v2_2 hs3 hs8 hs9 hs10).trans (v3_i hs11 (k := k) (by omega) hs13f))).symm)
 refine Za (oC (Z4 rfl (dF hs12)) I0 I0 (kN 88 [(1, .box 27 (cFm p)), (2, .box 30 (cPq q))] [(2, .box 1 0), (3, .box 2 0), (64, Zc q.start), (65, iv q.start.length), (66, iv k), (67, bv false)] (Zd (Zb (Zq rfl (Yo (Zv (Zv (t_hit ?_)))))))))
 exact t_meet (by have : k = q.start.length := (by omega); subst this; exact hs0) (ZL _ _ rfl (by kernel_rfl) (by kernel_rfl))
 refine Zd (Zb (Zb (Za (oA (fb 1 3 U30 1) I0 (oB (lb (iv q.kind) 76 U3) I0 rfl (oC (ZM rfl (dT hs8)) I0 I0 (kN 88 [(1, .box 27 (cFm p)), (2, .box 30 (cPq q))] [(2, .box 1 0), (3, .box 2 0), (78, bv true)] (Zd (Zu rfl (Zb (Za ?_)))))))))))
 refine oA (fb 5 3 U30 1) I0 (oB (lb (Zc q.goal) 79 U24) I0 rfl (oA (fb 2 2 U27 1) I0 (oB (lb (Y3 p.states) 81 U22) I0 rfl (oA (Zs (.tmp 82) rfl U22) I0 (oD (Zj (c := .func 49) (xs := #[.tmp 80, .tmp 83]) [] (Kr p.states.length HP.lstates q.goal HQ.goal) rfl (by kernel_rfl) rfl (Xs := [Zc q.goal, iv p.states.length]) rfl rfl rfl) I0 I0 I0 (pM (aT 84 (iv (someE p.states.length q.goal))) (Zr (Zd (Zl (Zh ?_))))))))))
 refine Zn Try.results55 (.tmp rfl) ?_
 exact congrArg (fun x : Int => AV.v (.int .i64 x)) (((vp_2 hs1 hs2).trans ((v2_2 hs3 hs8 hs9 hs10).trans (v3_z hs11 SUB))).symm)
 refine Za (pM (mT 6 (iv (setE p.states.length q.start))) (oC (Z8 rfl (dF' hs11)) I0 I0 (kN 88 [(1, .box 27 (cFm p)), (2, .box 30 (cPq q))] [(2, .box 1 0), (3, .box 2 0), (4, iv 0), (6, iv (setE p.states.length q.start)), (61, bv true)] (Zd (Zu rfl (Zb (Za (pM (mT 6 (iv (setE p.states.length q.start))) (pM (aT 62 (iv (setE p.states.length q.start))) (Zr (Zd ?_)))))))))))
 refine Zl (Zh ?_)
 refine Zn Try.results55 (.tmp rfl) ?_
 exact congrArg (fun x : Int => AV.v (.int .i64 x)) (((vp_2 hs1 hs2).trans ((v2_2 hs3 hs8 hs9 hs10).trans (v3_s hs11))).symm)
 refine Za (oA (fb 1 3 U30 1) I0 (oB (lb (iv q.kind) 20 U3) I0 rfl (oC (Z8 rfl (dF' hs3)) I0 I0 (pM (mT 22 (bv true)) (gA (fb 1 3 U30 1) I0 (gB (lb (iv q.kind) 24 U3) I0 rfl (gC (Z8 rfl (dF' hs8)) I0 I0 (pP (Zt (.tmp 23) (.tmp 26) (.const (.bool false)) true (bv true) (bv false) rfl) (pM (aT 27 (bv true)) (kN 88 [(1, .box 27 (cFm p)), (2, .box 30 (cPq q))] [(2, .box 1 0), (3, .box 2 0), (4, iv 0), (19, bv true)] (Zd ?_)))))))))))
 refine Zu rfl (Zb (Za (pM (aC (.int .i64 1)) (Zr (Zd (Zl (Zk (Zh ?_))))))))
 refine Zn Try.results55 (.tmp rfl) ?_
 exact congrArg (fun x : Int => AV.v (.int .i64 x)) (((vp_2 hs1 hs2).trans (v2_k hs3 hs8)).symm)
 have hs2f : (nameB q.nm.toList) = false := by simpa using hs2
 refine Za (oA (fb 0 3 U30 1) I0 (oB (lb (sv q.nm) 15 U9) I0 rfl (oC (Zj (c := .func 41) (xs := #[.tmp 16]) [] (Z6 (qValidName_c q.nm HQ.nm) hs2f) rfl (by kernel_rfl) rfl (Xs := [sv q.nm]) rfl rfl rfl) I0 I0 (oA (Yb rfl rfl) I0 (pM (aT 18 (bv true)) (kN 88 [(1, .box 27 (cFm p)), (2, .box 30 (cPq q))] [(2, .box 1 0), (3, .box 2 0), (4, iv 0), (14, bv true)] (Zd (Zu rfl (Zb (Za (pM (aC (.int .i64 2)) ?_)))))))))))
 refine Zr (Zd (Zl (Zk (Zh ?_))))
 refine Zn Try.results55 (.tmp rfl) ?_
 exact congrArg (fun x : Int => AV.v (.int .i64 x)) ((vp_n hs1 hs2f).symm)
 refine Za (pM (mT 5 (iv (valE p))) (oC (Z8 rfl (dF' hs1)) I0 I0 (kN 88 [(1, .box 27 (cFm p)), (2, .box 30 (cPq q))] [(2, .box 1 0), (3, .box 2 0), (4, iv 0), (5, iv (valE p)), (12, bv true)] (Zd (Zu rfl (Zb (Za (pM (mT 5 (iv (valE p))) (pM (aT 13 (iv (valE p))) (Zr (Zd ?_)))))))))))
 refine Zl (Zh ?_)
 refine Zn Try.results55 (.tmp rfl) ?_
 exact congrArg (fun x : Int => AV.v (.int .i64 x)) ((vp_v hs1).symm)
end Go.Proofs.Ytoefmdjgnabgfaa

namespace Go.Proofs.Ytoefmdjgnabgfaa
set_option maxRecDepth 100000
set_option maxHeartbeats 6400000
open Go.RowKit Go.Deep
variable {J : World → Prop}
theorem isShapeJ_c {xs : List Int} (hI : InOk xs) (hl : xs.length ≤ 100) (n : Int) : Ctr Try.prog J 26 [Zc xs, iv n] (bv (isShp xs n)) := ctr2 fun w v v' _ h h' => by
  rw [h'.v_inv]
  exact (Kf n (Ya hI (fun _ _ => Nat.zero_le _) h) (by omega)).mono fun e w' ⟨he, hw⟩ => ret_sc ⟨he, by rw [← hw]; exact Below.refl _ _⟩
theorem rowLinkJ_c {top c i : Int} (h0 : 0 ≤ i) (h1 : i < c) (hc : c ≤ 100) : Ctr Try.prog J 39 [iv top, iv c, iv i] (.agg (Ns.lk3 top c i)) := ctr3 fun w v v' v'' _ h h' h'' => by
  rw [h.v_inv, h'.v_inv, h''.v_inv]
  exact (rowLink_any top c i w h0 h1 (by omega)).mono fun _ _ hh => ⟨_, hh.1, .agg rfl fun j hj => (match j, hj with
    | 0, _ => .v _
    | 1, _ => .v _
    | 2, _ => .v _), hh.2⟩
theorem propErr_c {p : Fm} (HP : FmOk p) {q : Pq} (HQ : PqOk q) {kd : Int} : Ctr Try.prog J 25 [.agg (cFm p), .agg (cPq q), iv kd] (iv (Jd.prE p q kd)) := by
 refine Zy Try.func25 rfl (by intro X hX; simp only [List.mem_cons, List.not_mem_nil, or_false] at hX; rcases hX with rfl | rfl | rfl; exact Zx (Yi p); exact Zx (Yt q); exact .v _) (n := 18) rfl (by simp) (fun w0 => ?_)
 refine kW 18 [] [(0, .agg (cFm p)), (1, .agg (cPq q)), (2, iv kd)] (Zb (Za (Z9 rfl (ZT (X := .agg (cFm p)) (k := 1) (.tmp 0) rfl rfl) ⟨I0, T0⟩ T0 rfl (Z9 rfl (ZT (X := .agg (cPq q)) (k := 2) (.tmp 1) rfl rfl) ⟨I0, T0⟩ T0 rfl (pM (aC (.int .i64 0)) (kN 18 [(1, .box 27 (cFm p)), (2, .box 30 (cPq q))] [(2, iv kd), (3, .box 1 0), (4, .box 2 0), (6, iv 0)] (Zd (Zb (Zb (Za (oB (Zf (Y := .box 27 (cFm p)) (ds := cFm p) (z := 10) (.tmp 3) rfl U27 rfl (by kernel_rfl) (by decide) (by kernel_rfl) (by kernel_rfl)) I0 rfl ?_)))))))))))
 refine oB (Zf (Y := .box 30 (cPq q)) (ds := cPq q) (z := 6) (.tmp 4) rfl U30 rfl (by kernel_rfl) (by decide) (by kernel_rfl) (by kernel_rfl)) I0 rfl (oD (Zj (c := .func 55) (xs := #[.tmp 8, .tmp 9]) [] (qValidateProperty_c HP HQ) rfl (by kernel_rfl) rfl (Xs := [.agg (cFm p), .agg (cPq q)]) rfl rfl rfl) I0 I0 I0 (pM (aT 10 (iv (vpE p q))) (kN 18 [(2, .box 30 (cPq q))] [(2, iv kd), (4, .box 2 0), (6, iv 0), (7, iv (vpE p q))] (Zd (Zb ?_)))))
 by_cases hs1 : vpE p q = 0
 refine Za (pM (mT 7 (iv (vpE p q))) (oC (Z8 rfl (dT' hs1)) I0 I0 (kN 18 [(2, .box 30 (cPq q))] [(2, iv kd), (4, .box 2 0), (6, iv 0), (7, iv (vpE p q)), (12, bv false)] (Zd (Zq rfl (Zm (Zd (Zb (Zb ?_)))))))))
 by_cases hs2 : q.kind = kd
 refine Za (oA (fb 1 4 U30 1) I0 (oB (lb (iv q.kind) 14 U3) I0 rfl (pM (mT 2 (iv kd)) (oC (Z8 rfl (dT' hs2)) I0 I0 (kN 18 [] [(6, iv 0), (17, bv false)] (Zd (Zq rfl (Zm (Zd (Zb (Za ?_)))))))))))
 refine pM (aC (.int .i64 0)) (Zr (Zd (Zl ?_)))
 refine Zn Try.results25 (.tmp rfl) ?_
 rw [Jd.prE_o hs1 hs2]
 exact rfl
 refine Za (oA (fb 1 4 U30 1) I0 (oB (lb (iv q.kind) 14 U3) I0 rfl (pM (mT 2 (iv kd)) (oC (Z8 rfl (dF' hs2)) I0 I0 (kN 18 [] [(6, iv 0), (17, bv true)] (Zd (Zu rfl (Zb (Za (pM (aC (.int .i64 7)) (Zr ?_)))))))))))
 refine Zd (Zl (Zh ?_))
 refine Zn Try.results25 (.tmp rfl) ?_
 rw [Jd.prE_k hs1 hs2]
 exact rfl
 refine Za (pM (mT 7 (iv (vpE p q))) (oC (Z8 rfl (dF' hs1)) I0 I0 (kN 18 [(2, .box 30 (cPq q))] [(2, iv kd), (4, .box 2 0), (6, iv 0), (7, iv (vpE p q)), (12, bv true)] (Zd (Zu rfl (Zb (Za (pM (mT 7 (iv (vpE p q))) (pM (aT 13 (iv (vpE p q))) (Zr (Zd ?_)))))))))))
 refine Zl (Zh ?_)
 refine Zn Try.results25 (.tmp rfl) ?_
 rw [Jd.prE_v hs1]
 exact rfl
theorem linksR_c {top : Int} {c : Nat} (ht : top = 2 ∨ top = 3) (hc : c ≤ 100) {sh : List Int} : Ctr Try.prog J 28 [iv top, Zc sh, iv c] (.sl 3 c (Ns.lkZ top c c)) := by
 refine Zy Try.func28 rfl (by intro X hX; simp only [List.mem_cons, List.not_mem_nil, or_false] at hX; rcases hX with rfl | rfl | rfl; exact .v _; exact ZI _; exact .v _) (n := 33) rfl (by simp) (fun w0 => ?_)
 refine kW 33 [] [(0, iv top), (1, Zc sh), (2, iv c)] (Zb (Za (pM (YI (.const (.slice none 0 0)) (.v (.slice none 0 0)) rfl) (kN 33 [] [(0, iv top), (1, Zc sh), (2, iv c), (6, .v (.slice none 0 0))] (Zd (Zb (Zb (Za (pM (mT 0 (iv top)) (kN 33 [] [(0, iv top), (1, Zc sh), (2, iv c), (6, .v (.slice none 0 0)), (9, iv top)] (Zd ?_)))))))))))
 refine ZC (Zb (Zb ?_))
 by_cases hs1 : top = 2
 refine Za (oC (ZM rfl (dT hs1)) I0 I0 (pM (aT 11 (bv true)) (kN 33 [] [(0, iv top), (1, Zc sh), (2, iv c), (6, .v (.slice none 0 0)), (9, iv top), (10, bv true)] (Zd (Zu rfl (Zm (Zd (Zu rfl (Zb (Za (pM (mT 2 (iv c)) ?_)))))))))))
 refine Z9 rfl (sp_makeZ (k := 1) (n := c) (bytes := 24) (z := 3) (zv := .agg #[.int .i64 0, .int .i64 0, .int .i64 0]) true rfl U66 (by kernel_rfl) rfl (by decide) (by first | (show 24 * c ≤ _; omega) | omega) (by unfold maxLen; omega) (cs := (Ns.lkZ top c 0)) (Ns.lkZ_zero top c)) ⟨I0, I0, T0⟩ T0 rfl (pM (aT 14 (.own 1)) (kN 33 [(1, .row true 76 3 c (Ns.lkZ top c 0))] [(0, iv top), (2, iv c), (6, .v (.slice none 0 0)), (7, .own 1)] (Zd (Zb (Zb (Za (pM (mT 7 (.own 1)) (oB (sp_lenOwn (.tmp 15) rfl U66) I0 rfl (pM (YH (.const (.int .i64 0)) (iv 0) rfl) (kN 33 [(1, .row true 76 3 c (Ns.lkZ top c 0))] [(0, iv top), (2, iv c), (6, .v (.slice none 0 0)), (7, .own 1), (16, iv c), (17, iv 0)] (Zd ?_)))))))))))
 refine ZC ?_
 refine Yk (σ := {j : Nat // j ≤ c}) (fun s => (ofL [(1, .row true 76 3 c (Ns.lkZ top c s.1))], ofT 33 [(0, iv top), (2, iv c), (6, .v (.slice none 0 0)), (7, .own 1), (16, iv c), (17, iv s.1)])) (fun s => c - s.1) ⟨0, Nat.zero_le _⟩ (ZL _ _ rfl (by kernel_rfl) (by kernel_rfl)) (fun s => ?_)
 obtain ⟨j, hj0⟩ := s
 show ETri J w0 (ofL [(1, .row true 76 3 c (Ns.lkZ top c j))]) (ofT 33 [(0, iv top), (2, iv c), (6, .v (.slice none 0 0)), (7, .own 1), (16, iv c), (17, iv j)]) _
 refine Zb ?_
 by_cases hs2 : ((j : Nat) : Int) < ((c : Nat) : Int)
 refine Za (oC (Z4 rfl (dT hs2)) I0 I0 (kN 33 [(1, .row true 76 3 c (Ns.lkZ top c j))] [(0, iv top), (2, iv c), (6, .v (.slice none 0 0)), (7, .own 1), (16, iv c), (17, iv j), (18, bv true)] (Zd (Zb (Zu rfl (Zm (Zd (Zb (ZC (Zb (Za ?_)))))))))))
 refine pM (mT 17 (iv j)) (pM (aT 19 (iv j)) (kN 33 [(1, .row true 76 3 c (Ns.lkZ top c j))] [(0, iv top), (2, iv c), (6, .v (.slice none 0 0)), (7, .own 1), (8, iv j), (16, iv c), (17, iv j), (18, bv true)] (Zd (Za (pM (mT 7 (.own 1)) (pM (mT 8 (iv j)) (pM (mT 0 (iv top)) (pM (mT 2 (iv c)) (pM (mT 8 (iv j)) (Z9 rfl (Zj (c := .func 39) (xs := #[.tmp 22, .tmp 23, .tmp 24]) [] (rowLinkJ_c (by omega) (by omega) (by omega)) rfl (by kernel_rfl) rfl (Xs := [iv top, iv c, iv j]) rfl rfl rfl) ⟨I0, I0, I0, I0, T0⟩ T0 T0 (Z9 rfl (sp_indexOwn (off := j * 3) (.tmp 20) (.tmp 21) rfl U66 (by kernel_rfl) (by omega) (by omega) rfl) ⟨I0, I0, T0⟩ ⟨rfl, T0⟩ T0 ?_)))))))))))
 refine Z9 rfl (sp_storeRow (X := .agg [iv ((rowL top ((c : Nat) : Int) (((j) : Nat) : Int)).1), iv ((rowL top ((c : Nat) : Int) (((j) : Nat) : Int)).2.1), iv ((rowL top ((c : Nat) : Int) (((j) : Nat) : Int)).2.2)]) (off := j * 3) (cs := (Ns.lkZ top c j)) (ds := (Ns.lkZ top c (j + 1))) (zz := 3) (.tmp 26) (.tmp 25) rfl (by kernel_rfl) (by kernel_rfl) (fun _ d hd => by simp only [AV.cellsOf, Ns.lk3, List.mem_cons, List.not_mem_nil, or_false] at hd; rcases hd with rfl | rfl | rfl <;> rfl) (by kernel_rfl) (by rw [Ns.lkZ_len (by omega)]; omega) (Ns.lkZ_step (by omega))) ⟨I0, .inr (.inr (.inl ⟨_, rfl, rfl⟩)), T0⟩ ⟨rfl, T0⟩ rfl (kN 33 [(1, .row true 76 3 c (Ns.lkZ top c (j + 1)))] [(0, iv top), (2, iv c), (6, .v (.slice none 0 0)), (7, .own 1), (8, iv j), (16, iv c), (17, iv j), (18, bv true)] (Yg (Zd (Za (oC (Yz (c := ((j + 1 : Nat) : Int)) rfl (w64 (by omega) (by omega) (by omega))) I0 I0 (pM (mT 27 (iv (j + 1 : Nat))) (kN 33 [(1, .row true 76 3 c (Ns.lkZ top c (j + 1)))] [(0, iv top), (2, iv c), (6, .v (.slice none 0 0)), (7, .own 1), (8, iv j), (16, iv c), (17, iv (j + 1 : Nat)), (18, bv true)] (Zd ?_))))))))
 refine ZY ⟨j + 1, by omega⟩ (show c - (j + 1) < c - j by omega) ?_
 exact ZL _ _ rfl (by kernel_rfl) (by kernel_rfl)
 refine Za (oC (Z4 rfl (dF hs2)) I0 I0 (kN 33 [(1, .row true 76 3 c (Ns.lkZ top c j))] [(0, iv top), (2, iv c), (6, .v (.slice none 0 0)), (7, .own 1), (16, iv c), (17, iv j), (18, bv false)] (Zd (Zb (Zq rfl (Yo (Zv (Zv (t_hit (Zd (Zb ?_)))))))))))
 refine Za (pM (mT 7 (.own 1)) (pM (aT 28 (.own 1)) (Zr (Zd (Zl (Zk (Zh ?_)))))))
 refine Zn Try.results28 (.tmp rfl) ?_
 obtain rfl : j = c := by omega
 exact rfl
 refine Za (oC (ZM rfl (dF hs1)) I0 I0 (pM (aT 11 (bv false)) (kN 33 [] [(0, iv top), (1, Zc sh), (2, iv c), (6, .v (.slice none 0 0)), (9, iv top), (10, bv false)] (Zd (Zq rfl (Za (oC (ZM rfl (dT (by omega))) I0 I0 (pM (aT 12 (bv true)) (kN 33 [] [(0, iv top), (1, Zc sh), (2, iv c), (6, .v (.slice none 0 0)), (9, iv top), (10, bv true)] (Zd (Zu rfl ?_)))))))))))
 refine Zb (Za (pM (mT 2 (iv c)) (Z9 rfl (sp_makeZ (k := 1) (n := c) (bytes := 24) (z := 3) (zv := .agg #[.int .i64 0, .int .i64 0, .int .i64 0]) true rfl U66 (by kernel_rfl) rfl (by decide) (by first | (show 24 * c ≤ _; omega) | omega) (by unfold maxLen; omega) (cs := (Ns.lkZ top c 0)) (Ns.lkZ_zero top c)) ⟨I0, I0, T0⟩ T0 rfl (pM (aT 14 (.own 1)) (kN 33 [(1, .row true 76 3 c (Ns.lkZ top c 0))] [(0, iv top), (2, iv c), (6, .v (.slice none 0 0)), (7, .own 1)] (Zd (Zb (Zb (Za (pM (mT 7 (.own 1)) (oB (sp_lenOwn (.tmp 15) rfl U66) I0 rfl ?_)))))))))))
 refine pM (YH (.const (.int .i64 0)) (iv 0) rfl) (kN 33 [(1, .row true 76 3 c (Ns.lkZ top c 0))] [(0, iv top), (2, iv c), (6, .v (.slice none 0 0)), (7, .own 1), (16, iv c), (17, iv 0)] (Zd (ZC ?_)))
 refine Yk (σ := {j : Nat // j ≤ c}) (fun s => (ofL [(1, .row true 76 3 c (Ns.lkZ top c s.1))], ofT 33 [(0, iv top), (2, iv c), (6, .v (.slice none 0 0)), (7, .own 1), (16, iv c), (17, iv s.1)])) (fun s => c - s.1) ⟨0, Nat.zero_le _⟩ (ZL _ _ rfl (by kernel_rfl) (by kernel_rfl)) (fun s => ?_)
 obtain ⟨j, hj0⟩ := s
 show ETri J w0 (ofL [(1, .row true 76 3 c (Ns.lkZ top c j))]) (ofT 33 [(0, iv top), (2, iv c), (6, .v (.slice none 0 0)), (7, .own 1), (16, iv c), (17, iv j)]) _
 refine Zb ?_
 by_cases hs3 : ((j : Nat) : Int) < ((c : Nat) : Int)
 refine Za (oC (Z4 rfl (dT hs3)) I0 I0 (kN 33 [(1, .row true 76 3 c (Ns.lkZ top c j))] [(0, iv top), (2, iv c), (6, .v (.slice none 0 0)), (7, .own 1), (16, iv c), (17, iv j), (18, bv true)] (Zd (Zb (Zu rfl (Zm (Zd (Zb (ZC (Zb (Za ?_)))))))))))
 refine pM (mT 17 (iv j)) (pM (aT 19 (iv j)) (kN 33 [(1, .row true 76 3 c (Ns.lkZ top c j))] [(0, iv top), (2, iv c), (6, .v (.slice none 0 0)), (7, .own 1), (8, iv j), (16, iv c), (17, iv j), (18, bv true)] (Zd (Za (pM (mT 7 (.own 1)) (pM (mT 8 (iv j)) (pM (mT 0 (iv top)) (pM (mT 2 (iv c)) (pM (mT 8 (iv j)) (Z9 rfl (Zj (c := .func 39) (xs := #[.tmp 22, .tmp 23, .tmp 24]) [] (rowLinkJ_c (by omega) (by omega) (by omega)) rfl (by kernel_rfl) rfl (Xs := [iv top, iv c, iv j]) rfl rfl rfl) ⟨I0, I0, I0, I0, T0⟩ T0 T0 (Z9 rfl (sp_indexOwn (off := j * 3) (.tmp 20) (.tmp 21) rfl U66 (by kernel_rfl) (by omega) (by omega) rfl) ⟨I0, I0, T0⟩ ⟨rfl, T0⟩ T0 ?_)))))))))))
 refine Z9 rfl (sp_storeRow (X := .agg [iv ((rowL top ((c : Nat) : Int) (((j) : Nat) : Int)).1), iv ((rowL top ((c : Nat) : Int) (((j) : Nat) : Int)).2.1), iv ((rowL top ((c : Nat) : Int) (((j) : Nat) : Int)).2.2)]) (off := j * 3) (cs := (Ns.lkZ top c j)) (ds := (Ns.lkZ top c (j + 1))) (zz := 3) (.tmp 26) (.tmp 25) rfl (by kernel_rfl) (by kernel_rfl) (fun _ d hd => by simp only [AV.cellsOf, Ns.lk3, List.mem_cons, List.not_mem_nil, or_false] at hd; rcases hd with rfl | rfl | rfl <;> rfl) (by kernel_rfl) (by rw [Ns.lkZ_len (by omega)]; omega) (Ns.lkZ_step (by omega))) ⟨I0, .inr (.inr (.inl ⟨_, rfl, rfl⟩)), T0⟩ ⟨rfl, T0⟩ rfl (kN 33 [(1, .row true 76 3 c (Ns.lkZ top c (j + 1)))] [(0, iv top), (2, iv c), (6, .v (.slice none 0 0)), (7, .own 1), (8, iv j), (16, iv c), (17, iv j), (18, bv true)] (Yg (Zd (Za (oC (Yz (c := ((j + 1 : Nat) : Int)) rfl (w64 (by omega) (by omega) (by omega))) I0 I0 (pM (mT 27 (iv (j + 1 : Nat))) (kN 33 [(1, .row true 76 3 c (Ns.lkZ top c (j + 1)))] [(0, iv top), (2, iv c), (6, .v (.slice none 0 0)), (7, .own 1), (8, iv j), (16, iv c), (17, iv (j + 1 : Nat)), (18, bv true)] (Zd ?_))))))))
 refine ZY ⟨j + 1, by omega⟩ (show c - (j + 1) < c - j by omega) ?_
 exact ZL _ _ rfl (by kernel_rfl) (by kernel_rfl)
 refine Za (oC (Z4 rfl (dF hs3)) I0 I0 (kN 33 [(1, .row true 76 3 c (Ns.lkZ top c j))] [(0, iv top), (2, iv c), (6, .v (.slice none 0 0)), (7, .own 1), (16, iv c), (17, iv j), (18, bv false)] (Zd (Zb (Zq rfl (Yo (Zv (Zv (t_hit (Zd (Zb ?_)))))))))))
 refine Za (pM (mT 7 (.own 1)) (pM (aT 28 (.own 1)) (Zr (Zd (Zl (Zk (Zh ?_)))))))
 refine Zn Try.results28 (.tmp rfl) ?_
 obtain rfl : j = c := by omega
 exact rfl
theorem linksT_c {xs : List Int} {c : Int} (hI : InOk xs) (h0 : 0 < xs.length) (h1 : xs.length ≤ 100) : Ctr Try.prog J 28 [iv 4, Zc xs, iv c] (Ns.lkT xs) := by
 refine Zy Try.func28 rfl (by intro X hX; simp only [List.mem_cons, List.not_mem_nil, or_false] at hX; rcases hX with rfl | rfl | rfl; exact .v _; exact ZI _; exact .v _) (n := 33) rfl (by simp) (fun w0 => ?_)
 refine kW 33 [] [(0, iv 4), (1, Zc xs), (2, iv c)] (Zb (Za (pM (YI (.const (.slice none 0 0)) (.v (.slice none 0 0)) rfl) (kN 33 [] [(0, iv 4), (1, Zc xs), (2, iv c), (6, .v (.slice none 0 0))] (Zd (Zb (Zb (Za (pM (mT 0 (iv 4)) (kN 33 [] [(0, iv 4), (1, Zc xs), (2, iv c), (6, .v (.slice none 0 0)), (9, iv 4)] (Zd ?_)))))))))))
 refine ZC (Zb (Zb (Za (oC (ZM (r := false) rfl (by decide)) I0 I0 (pM (aT 11 (bv false)) (kN 33 [] [(0, iv 4), (1, Zc xs), (2, iv c), (6, .v (.slice none 0 0)), (9, iv 4), (10, bv false)] (Zd (Zq rfl (Za (oC (ZM (r := false) rfl (by decide)) I0 I0 (pM (aT 12 (bv false)) ?_)))))))))))
 refine kN 33 [] [(0, iv 4), (1, Zc xs), (2, iv c), (6, .v (.slice none 0 0)), (9, iv 4), (10, bv false)] (Zd (Zq rfl (Zb (Za (oC (ZM (r := true) rfl (by decide)) I0 I0 (pM (aT 30 (bv true)) (kN 33 [] [(1, Zc xs), (6, .v (.slice none 0 0)), (29, bv true)] (Zd (Zu rfl (Zb (Za ?_)))))))))))
 refine pM (mT 1 (Zc xs)) (oC (Zj (c := .func 40) (xs := #[.tmp 31]) [] (Ns.treeLinks_c hI h0 h1) rfl (by kernel_rfl) rfl (Xs := [Zc xs]) rfl rfl rfl) I0 I0 (pM (aT 32 (.fr (Ns.lkT xs))) (Zr (Zd (Zl (Zk (Zh ?_)))))))
 refine Zn Try.results28 (.tmp rfl) ?_
 exact rfl
theorem linksC_c {sh : List Int} {c : Int} : Ctr Try.prog J 28 [iv 1, Zc sh, iv c] (.v (.slice none 0 0)) := by
 refine Zy Try.func28 rfl (by intro X hX; simp only [List.mem_cons, List.not_mem_nil, or_false] at hX; rcases hX with rfl | rfl | rfl; exact .v _; exact ZI _; exact .v _) (n := 33) rfl (by simp) (fun w0 => ?_)
 refine kW 33 [] [(0, iv 1), (1, Zc sh), (2, iv c)] (Zb (Za (pM (YI (.const (.slice none 0 0)) (.v (.slice none 0 0)) rfl) (kN 33 [] [(0, iv 1), (1, Zc sh), (2, iv c), (6, .v (.slice none 0 0))] (Zd (Zb (Zb (Za (pM (mT 0 (iv 1)) (kN 33 [] [(0, iv 1), (1, Zc sh), (2, iv c), (6, .v (.slice none 0 0)), (9, iv 1)] (Zd ?_)))))))))))
 refine ZC (Zb (Zb (Za (oC (ZM (r := false) rfl (by decide)) I0 I0 (pM (aT 11 (bv false)) (kN 33 [] [(0, iv 1), (1, Zc sh), (2, iv c), (6, .v (.slice none 0 0)), (9, iv 1), (10, bv false)] (Zd (Zq rfl (Za (oC (ZM (r := false) rfl (by decide)) I0 I0 (pM (aT 12 (bv false)) ?_)))))))))))
 refine kN 33 [] [(0, iv 1), (1, Zc sh), (2, iv c), (6, .v (.slice none 0 0)), (9, iv 1), (10, bv false)] (Zd (Zq rfl (Zb (Za (oC (ZM (r := false) rfl (by decide)) I0 I0 (pM (aT 30 (bv false)) (kN 33 [] [(1, Zc sh), (6, .v (.slice none 0 0)), (29, bv false)] (Zd (Zq rfl (Zm (Yg ?_)))))))))))
 refine Zd (Zb (Za (pM (YI (.const (.slice none 0 0)) (.v (.slice none 0 0)) rfl) (Zr (Zd (Zl ?_))))))
 refine Zn Try.results28 (.tmp rfl) ?_
 exact rfl
theorem shp_pos {xs : List Int} (h : shp xs = true) : 0 < xs.length := by
  cases xs with
  | nil => simp [shp, shpF] at h
  | cons a l => simp
theorem linksA_c {top : Int} {sh : List Int} {n : Nat} (hI : InOk sh) (hl : sh.length ≤ 100) (hn : n ≤ 100) (h : top = 2 ∨ top = 3 ∨ (top = 4 ∧ isShp sh ((n : Nat) : Int) = true)) : Ctr Try.prog J 28 [iv top, Zc sh, iv ((n : Nat) : Int)] (Jd.lkA top sh n) := by
  rcases h with h | h | ⟨rfl, h⟩
  · have := linksR_c (J := J) (top := top) (c := n) (.inl h) hn (sh := sh)
    rw [Jd.lkZ_row (sh := sh) (by omega)] at this
    exact this
  · have := linksR_c (J := J) (top := top) (c := n) (.inr h) hn (sh := sh)
    rw [Jd.lkZ_row (sh := sh) (by omega)] at this
    exact this
  unfold isShp at h
  simp only [Bool.and_eq_true, decide_eq_true_eq] at h
  obtain rfl : sh.length = n := by omega
  rw [← Jd.lkA_tree]
  exact linksT_c hI (shp_pos h.2) hl
theorem links_any {top : Int} {sh : List Int} {n : Nat} (hI : InOk sh) (hl : sh.length ≤ 100) (hn : n ≤ 100) (h : top = 1 ∨ top = 2 ∨ top = 3 ∨ (top = 4 ∧ isShp sh ((n : Nat) : Int) = true)) : Ctr Try.prog J 28 [iv top, Zc sh, iv ((n : Nat) : Int)] .any := by
  rcases h with rfl | h
  · exact fun w vs hJ hl hv => (linksC_c w vs hJ hl hv).mono fun e w' ⟨v, he, hp, hb⟩ => ⟨v, he, .any _, hb⟩
  exact fun w vs hJ hl' hv => (linksA_c hI hl hn h w vs hJ hl' hv).mono fun e w' ⟨v, he, hp, hb⟩ => ⟨v, he, .any _, hb⟩
end Go.Proofs.Ytoefmdjgnabgfaa

namespace Go.Proofs.Ytoefmdjgnabgfaa
set_option maxRecDepth 100000
set_option maxHeartbeats 6400000
open Go.RowKit Go.Deep
variable {J : World → Prop}
theorem sec_c {xs l : List Int} (hx : xs.length ≤ 100) (hl : 2 ≤ l.length) (hl2 : l.length ≤ 100) {j : Int} (hj : j < xs.length) : Ctr Try.prog J 86 [iv j, .el ([Zc xs]) 0, .el ([Zc l]) 0] (bv (Jd.sec xs (l.getD 1 0) j)) := by
 refine Zy Try.func86 rfl (by intro X hX; simp only [List.mem_cons, List.not_mem_nil, or_false] at hX; rcases hX with rfl | rfl | rfl; exact .v _; exact .el (Yl (by intro X hX; rw [List.mem_singleton.1 hX]; exact ZI _)); exact .el (Yl (by intro X hX; rw [List.mem_singleton.1 hX]; exact ZI _))) (n := 17) rfl (by simp) (fun w0 => ?_)
 refine kW 17 [] [(0, iv j), (1, .el ([Zc xs]) 0), (2, .el ([Zc l]) 0)] (Zb (Za (pM (aC (.bool false)) (kN 17 [] [(0, iv j), (1, .el ([Zc xs]) 0), (2, .el ([Zc l]) 0), (4, bv false)] (Zd (Zb ?_))))))
 by_cases hs1 : 0 ≤ j
 refine Yw (dM (mT 0 (iv j)) (dC (sp_geq rfl (dT hs1)) I0 I0 (dM (mT 6 (bv true)) (dA (Zz (X := Zc xs) (.tmp 1) rfl U24 rfl rfl) I0 (dM (mT 0 (iv j)) (dC (ZA (off := j.toNat * 1) (.tmp 8) (.tmp 9) rfl U24 (by kernel_rfl) (by omega) (by omega) rfl) I0 I0 (dA (Zz (X := iv xs[j.toNat]) (.tmp 10) rfl U3 rfl (Yc xs (by omega))) I0 (dA (Zz (X := Zc l) (.tmp 2) rfl U24 rfl rfl) I0 (dC (ZA (off := 1 * 1) (.tmp 12) (.const (.int .i64 1)) rfl U24 (by kernel_rfl) (by omega) (by omega) rfl) I0 I0 (dA (Zz (X := iv l[1]) (.tmp 13) rfl U3 rfl (Yc l (by omega))) I0 (dC (ZM rfl rfl) I0 I0 (dP (Zt (.tmp 7) (.tmp 15) (.const (.bool false)) true (bv (decide (xs[j.toNat] = l[1]))) (bv false) rfl) (dM (aT 16 (bv (decide (xs[j.toNat] = l[1])))) (dE ?_)))))))))))))) (by kernel_rfl)
 show ETri J w0 _ _ _
 refine Zd (Zl ?_)
 refine Zn Try.results86 (.tmp rfl) ?_
 exact congrArg (fun x : Bool => AV.v (.bool x)) ((by unfold Jd.sec; rw [decide_eq_true hs1, Bool.true_and, Ct.getD_at (L := xs) (by omega), Ct.getD_at (L := l) (by omega)]))
 refine Yw (dM (mT 0 (iv j)) (dC (sp_geq rfl (dF hs1)) I0 I0 (dM (mT 6 (bv false)) (dK (dK (dK (dK (dK (dK (dK (dK (dP (Zt (.tmp 7) (.tmp 15) (.const (.bool false)) false (.v (.tuple #[])) (bv false) rfl) (dM (aT 16 (bv false)) (dE ?_)))))))))))))) (by kernel_rfl)
 show ETri J w0 _ _ _
 refine Zd (Zl ?_)
 refine Zn Try.results86 (.tmp rfl) ?_
 exact congrArg (fun x : Bool => AV.v (.bool x)) ((by unfold Jd.sec; rw [decide_eq_false hs1]; rfl))
theorem hasAdj_c {top : Int} {sh l xs : List Int} (hx : xs.length ≤ 100) (hl : 2 ≤ l.length) (hl2 : l.length ≤ 100) (hLk : Jd.LkOk top sh xs.length) : Ctr Try.prog J 57 [iv top, Zc l, Zc xs, Jd.lkA top sh xs.length] (bv (Jd.adV top (l.getD 0 0) (l.getD 1 0) xs (Jd.lkF top sh xs.length) (Jd.lkS top sh xs.length))) := by
 refine Zy Try.func57 rfl (by intro X hX; simp only [List.mem_cons, List.not_mem_nil, or_false] at hX; rcases hX with rfl | rfl | rfl | rfl; exact .v _; exact ZI _; exact ZI _; exact (show Plain (Jd.lkA top sh xs.length) from .sl (Yl fun X hX => by obtain ⟨j, _, rfl⟩ := List.mem_map.1 hX; exact .v _))) (n := 48) rfl (by simp) (fun w0 => ?_)
 refine kW 48 [] [(0, iv top), (1, Zc l), (2, Zc xs), (3, Jd.lkA top sh xs.length)] (Zb (Za (Z9 rfl (ZT (X := Zc l) (k := 1) (.tmp 1) rfl rfl) ⟨I0, T0⟩ T0 rfl (Z9 rfl (ZT (X := Zc xs) (k := 2) (.tmp 2) rfl rfl) ⟨I0, T0⟩ T0 rfl (pM (aC (.bool false)) (kN 48 [(1, .box 24 [Zc l]), (2, .box 24 [Zc xs])] [(0, iv top), (3, Jd.lkA top sh xs.length), (5, .box 1 0), (6, .box 2 0), (8, bv false)] (Zd (Zb (Za (oC (sp_makeFunc (xs := #[.tmp 6, .tmp 5]) (Xs := [.box 2 0, .box 1 0]) rfl rfl) I0 I0 (pM (aT 12 (.clo 86 [.box 2 0, .box 1 0])) ?_)))))))))))
 refine kN 48 [(1, .box 24 [Zc l]), (2, .box 24 [Zc xs])] [(0, iv top), (3, Jd.lkA top sh xs.length), (5, .box 1 0), (6, .box 2 0), (8, bv false), (9, .clo 86 [.box 2 0, .box 1 0])] (Zd (Zb (Zb (Za (oB (lb (Zc xs) 6 U24) I0 rfl (oA (Zs (.tmp 13) rfl U24) I0 (pM (YH (.const (.int .i64 0)) (iv 0) rfl) (kN 48 [(1, .box 24 [Zc l]), (2, .box 24 [Zc xs])] [(0, iv top), (3, Jd.lkA top sh xs.length), (5, .box 1 0), (8, bv false), (9, .clo 86 [.box 2 0, .box 1 0]), (13, Zc xs), (14, iv xs.length), (15, iv 0)] (Zd (ZC ?_))))))))))
 refine Yk (σ := {k : Nat // k ≤ xs.length ∧ Jd.noN top (l.getD 0 0) (l.getD 1 0) xs (Jd.lkF top sh xs.length) (Jd.lkS top sh xs.length) k}) (fun s => (ofL [(1, .box 24 [Zc l]), (2, .box 24 [Zc xs])], ofT 48 [(0, iv top), (3, Jd.lkA top sh xs.length), (5, .box 1 0), (9, .clo 86 [.box 2 0, .box 1 0]), (13, Zc xs), (14, iv xs.length), (15, iv s.1)])) (fun s => xs.length - s.1) ⟨0, Nat.zero_le _, Jd.noN_zero⟩ (ZL _ _ rfl (by kernel_rfl) (by kernel_rfl)) (fun s => ?_)
 obtain ⟨k, hk0, hs0⟩ := s
 show ETri J w0 (ofL [(1, .box 24 [Zc l]), (2, .box 24 [Zc xs])]) (ofT 48 [(0, iv top), (3, Jd.lkA top sh xs.length), (5, .box 1 0), (9, .clo 86 [.box 2 0, .box 1 0]), (13, Zc xs), (14, iv xs.length), (15, iv k)]) _
 refine Zb ?_
 by_cases hs1 : ((k : Nat) : Int) < ((xs.length : Nat) : Int)
 have hk1 : k < xs.length := by omega
 obtain ⟨hF1, hS1⟩ := hLk k hk1
 refine Za (oC (Z4 rfl (dT hs1)) I0 I0 (kN 48 [(1, .box 24 [Zc l]), (2, .box 24 [Zc xs])] [(0, iv top), (3, Jd.lkA top sh xs.length), (5, .box 1 0), (9, .clo 86 [.box 2 0, .box 1 0]), (13, Zc xs), (14, iv xs.length), (15, iv k), (16, bv true)] (Zd (Zb (Zu rfl (Zm (Zd (Zb (ZC (Zb (Za ?_)))))))))))
 refine pM (mT 15 (iv k)) (oC (ZA (off := k * 1) (.tmp 13) (.tmp 15) rfl U24 (by kernel_rfl) (by omega) (by omega) rfl) I0 I0 (oA (Zz (X := iv xs[k]) (.tmp 18) rfl U3 rfl (Yc xs (by omega))) I0 (pM (aT 17 (iv k)) (pM (aT 19 (iv xs[k])) (kN 48 [(1, .box 24 [Zc l]), (2, .box 24 [Zc xs])] [(0, iv top), (3, Jd.lkA top sh xs.length), (5, .box 1 0), (9, .clo 86 [.box 2 0, .box 1 0]), (10, iv k), (11, iv xs[k]), (13, Zc xs), (14, iv xs.length), (15, iv k), (16, bv true)] (Zd (Zb ?_)))))))
 by_cases hs2 : xs[k] = l[0]
 by_cases hs3 : (Jd.sec xs (l.getD 1 0) (Jd.lkS top sh xs.length k)) = true
 refine Za (pM (mT 11 (iv xs[k])) (oB (lb (Zc l) 5 U24) I0 rfl (oC (ZA (off := 0 * 1) (.tmp 21) (.const (.int .i64 0)) rfl U24 (by kernel_rfl) (by omega) (by omega) rfl) I0 I0 (oA (Zz (X := iv l[0]) (.tmp 22) rfl U3 rfl (Yc l (by omega))) I0 (oC (ZM rfl (dT hs2)) I0 I0 (pM (mT 24 (bv true)) (qM (mT 9 (.clo 86 [.box 2 0, .box 1 0])) (qM (mT 3 (Jd.lkA top sh xs.length)) (qM (mT 10 (iv k)) (gC (ZA (off := k * 3) (.tmp 27) (.tmp 28) rfl U66 (by kernel_rfl) (by omega) (by omega) rfl) I0 I0 (gA (YT (off' := k * 3 + 1) (.tmp 29) rfl U76 rfl (z := 1) (by kernel_rfl) (by decide) rfl) I0 ?_)))))))))))
 refine gA (Zz (X := iv (Jd.lkS top sh xs.length k)) (.tmp 30) rfl U3 rfl (Jd.lk_at1 (by omega))) I0 (t_opG rfl (YU (c := .tmp 26) (xs := #[.tmp 31]) (Cs := [.box 2 0, .box 1 0]) [(2, .box 24 [Zc xs]), (1, .box 24 [Zc l])] (Z6 (sec_c hx hl hl2 (by omega)) hs3) rfl (by kernel_rfl) rfl (Xs := [iv (Jd.lkS top sh xs.length k)]) rfl rfl rfl rfl rfl) ⟨I0, I0, T0⟩ ⟨rfl, rfl, T0⟩ T0 (qM (mT 32 (bv true)) (qK (qK (qK (qK (qK (qK (qK (qK (qK ?_)))))))))))
 refine qK (qK (qP (Zt (.tmp 33) (.const (.bool true)) (.tmp 44) true (bv true) (.v (.tuple #[])) rfl) (pP (Zt (.tmp 25) (.tmp 45) (.const (.bool false)) true (bv true) (bv false) rfl) (kN 48 [(1, .box 24 [Zc l]), (2, .box 24 [Zc xs])] [(0, iv top), (3, Jd.lkA top sh xs.length), (5, .box 1 0), (9, .clo 86 [.box 2 0, .box 1 0]), (10, iv k), (11, iv xs[k]), (13, Zc xs), (14, iv xs.length), (15, iv k), (16, bv true), (46, bv true)] (Zd (Zu rfl (Zb (Za (pM (aC (.bool true)) (Zr (Zd ?_)))))))))))
 refine Zl (Zk (Zh (Zh (Zk (Zh ?_)))))
 refine Zn Try.results57 (.tmp rfl) ?_
 exact congrArg (fun x : Bool => AV.v (.bool x)) ((Jd.adV_hit (by omega) (by unfold Jd.nxB; rw [Ct.getD_at (L := xs) (by omega), Ct.getD_at (L := l) (by omega)]; simp only [dT hs2, hs3, decide_true, decide_false, Bool.and_true, Bool.true_and, Bool.false_and, Bool.and_false, Bool.true_or, Bool.false_or, Bool.or_true, Bool.or_false, Bool.not_true, Bool.not_false])).symm)
 have hs3f : (Jd.sec xs (l.getD 1 0) (Jd.lkS top sh xs.length k)) = false := by simpa using hs3
 by_cases hs4 : top = 4
 by_cases hs5 : (Jd.sec xs (l.getD 1 0) (Jd.lkF top sh xs.length k)) = true
 refine Za (pM (mT 11 (iv xs[k])) (oB (lb (Zc l) 5 U24) I0 rfl (oC (ZA (off := 0 * 1) (.tmp 21) (.const (.int .i64 0)) rfl U24 (by kernel_rfl) (by omega) (by omega) rfl) I0 I0 (oA (Zz (X := iv l[0]) (.tmp 22) rfl U3 rfl (Yc l (by omega))) I0 (oC (ZM rfl (dT hs2)) I0 I0 (pM (mT 24 (bv true)) (qM (mT 9 (.clo 86 [.box 2 0, .box 1 0])) (qM (mT 3 (Jd.lkA top sh xs.length)) (qM (mT 10 (iv k)) (gC (ZA (off := k * 3) (.tmp 27) (.tmp 28) rfl U66 (by kernel_rfl) (by omega) (by omega) rfl) I0 I0 (gA (YT (off' := k * 3 + 1) (.tmp 29) rfl U76 rfl (z := 1) (by kernel_rfl) (by decide) rfl) I0 ?_)))))))))))
 refine gA (Zz (X := iv (Jd.lkS top sh xs.length k)) (.tmp 30) rfl U3 rfl (Jd.lk_at1 (by omega))) I0 (t_opG rfl (YU (c := .tmp 26) (xs := #[.tmp 31]) (Cs := [.box 2 0, .box 1 0]) [(2, .box 24 [Zc xs]), (1, .box 24 [Zc l])] (Z6 (sec_c hx hl hl2 (by omega)) hs3f) rfl (by kernel_rfl) rfl (Xs := [iv (Jd.lkS top sh xs.length k)]) rfl rfl rfl rfl rfl) ⟨I0, I0, T0⟩ ⟨rfl, rfl, T0⟩ T0 (qM (mT 32 (bv false)) (qM (mT 0 (iv top)) (gC (ZM rfl (dT hs4)) I0 I0 (qM (mT 35 (bv true)) (qM (mT 9 (.clo 86 [.box 2 0, .box 1 0])) (qM (mT 3 (Jd.lkA top sh xs.length)) (qM (mT 10 (iv k)) (gC (ZA (off := k * 3) (.tmp 38) (.tmp 39) rfl U66 (by kernel_rfl) (by omega) (by omega) rfl) I0 I0 (gA (YT (off' := k * 3) (.tmp 40) rfl U76 rfl (z := 1) (by kernel_rfl) (by decide) rfl) I0 (gA (Zz (X := iv (Jd.lkF top sh xs.length k)) (.tmp 41) rfl U3 rfl (Jd.lk_at (by omega))) I0 ?_)))))))))))
 refine t_opG rfl (YU (c := .tmp 37) (xs := #[.tmp 42]) (Cs := [.box 2 0, .box 1 0]) [(2, .box 24 [Zc xs]), (1, .box 24 [Zc l])] (Z6 (sec_c hx hl hl2 (by omega)) hs5) rfl (by kernel_rfl) rfl (Xs := [iv (Jd.lkF top sh xs.length k)]) rfl rfl rfl rfl rfl) ⟨I0, I0, T0⟩ ⟨rfl, rfl, T0⟩ T0 (qP (Zt (.tmp 36) (.tmp 43) (.const (.bool false)) true (bv true) (bv false) rfl) (qP (Zt (.tmp 33) (.const (.bool true)) (.tmp 44) false (bv true) (bv true) rfl) (pP (Zt (.tmp 25) (.tmp 45) (.const (.bool false)) true (bv true) (bv false) rfl) (kN 48 [(1, .box 24 [Zc l]), (2, .box 24 [Zc xs])] [(0, iv top), (3, Jd.lkA top sh xs.length), (5, .box 1 0), (9, .clo 86 [.box 2 0, .box 1 0]), (10, iv k), (11, iv xs[k]), (13, Zc xs), (14, iv xs.length), (15, iv k), (16, bv true), (46, bv true)] (Zd (Zu rfl (Zb (Za (pM (aC (.bool true)) (Zr (Zd ?_)))))))))))
 refine Zl (Zk (Zh (Zh (Zk (Zh ?_)))))
 refine Zn Try.results57 (.tmp rfl) ?_
 exact congrArg (fun x : Bool => AV.v (.bool x)) ((Jd.adV_hit (by omega) (by unfold Jd.nxB; rw [Ct.getD_at (L := xs) (by omega), Ct.getD_at (L := l) (by omega)]; simp only [dT hs2, hs3f, dT hs4, hs5, decide_true, decide_false, Bool.and_true, Bool.true_and, Bool.false_and, Bool.and_false, Bool.true_or, Bool.false_or, Bool.or_true, Bool.or_false, Bool.not_true, Bool.not_false])).symm)
 have hs5f : (Jd.sec xs (l.getD 1 0) (Jd.lkF top sh xs.length k)) = false := by simpa using hs5
 refine Za (pM (mT 11 (iv xs[k])) (oB (lb (Zc l) 5 U24) I0 rfl (oC (ZA (off := 0 * 1) (.tmp 21) (.const (.int .i64 0)) rfl U24 (by kernel_rfl) (by omega) (by omega) rfl) I0 I0 (oA (Zz (X := iv l[0]) (.tmp 22) rfl U3 rfl (Yc l (by omega))) I0 (oC (ZM rfl (dT hs2)) I0 I0 (pM (mT 24 (bv true)) (qM (mT 9 (.clo 86 [.box 2 0, .box 1 0])) (qM (mT 3 (Jd.lkA top sh xs.length)) (qM (mT 10 (iv k)) (gC (ZA (off := k * 3) (.tmp 27) (.tmp 28) rfl U66 (by kernel_rfl) (by omega) (by omega) rfl) I0 I0 (gA (YT (off' := k * 3 + 1) (.tmp 29) rfl U76 rfl (z := 1) (by kernel_rfl) (by decide) rfl) I0 ?_)))))))))))
 refine gA (Zz (X := iv (Jd.lkS top sh xs.length k)) (.tmp 30) rfl U3 rfl (Jd.lk_at1 (by omega))) I0 (t_opG rfl (YU (c := .tmp 26) (xs := #[.tmp 31]) (Cs := [.box 2 0, .box 1 0]) [(2, .box 24 [Zc xs]), (1, .box 24 [Zc l])] (Z6 (sec_c hx hl hl2 (by omega)) hs3f) rfl (by kernel_rfl) rfl (Xs := [iv (Jd.lkS top sh xs.length k)]) rfl rfl rfl rfl rfl) ⟨I0, I0, T0⟩ ⟨rfl, rfl, T0⟩ T0 (qM (mT 32 (bv false)) (qM (mT 0 (iv top)) (gC (ZM rfl (dT hs4)) I0 I0 (qM (mT 35 (bv true)) (qM (mT 9 (.clo 86 [.box 2 0, .box 1 0])) (qM (mT 3 (Jd.lkA top sh xs.length)) (qM (mT 10 (iv k)) (gC (ZA (off := k * 3) (.tmp 38) (.tmp 39) rfl U66 (by kernel_rfl) (by omega) (by omega) rfl) I0 I0 (gA (YT (off' := k * 3) (.tmp 40) rfl U76 rfl (z := 1) (by kernel_rfl) (by decide) rfl) I0 (gA (Zz (X := iv (Jd.lkF top sh xs.length k)) (.tmp 41) rfl U3 rfl (Jd.lk_at (by omega))) I0 ?_)))))))))))
 refine t_opG rfl (YU (c := .tmp 37) (xs := #[.tmp 42]) (Cs := [.box 2 0, .box 1 0]) [(2, .box 24 [Zc xs]), (1, .box 24 [Zc l])] (Z6 (sec_c hx hl hl2 (by omega)) hs5f) rfl (by kernel_rfl) rfl (Xs := [iv (Jd.lkF top sh xs.length k)]) rfl rfl rfl rfl rfl) ⟨I0, I0, T0⟩ ⟨rfl, rfl, T0⟩ T0 (qP (Zt (.tmp 36) (.tmp 43) (.const (.bool false)) true (bv false) (bv false) rfl) (qP (Zt (.tmp 33) (.const (.bool true)) (.tmp 44) false (bv true) (bv false) rfl) (pP (Zt (.tmp 25) (.tmp 45) (.const (.bool false)) true (bv false) (bv false) rfl) (kN 48 [(1, .box 24 [Zc l]), (2, .box 24 [Zc xs])] [(0, iv top), (3, Jd.lkA top sh xs.length), (5, .box 1 0), (9, .clo 86 [.box 2 0, .box 1 0]), (10, iv k), (11, iv xs[k]), (13, Zc xs), (14, iv xs.length), (15, iv k), (16, bv true), (46, bv false)] (Zd (Zq rfl (Zm (Yg (Zd (Za (oC (Yz (c := ((k + 1 : Nat) : Int)) rfl (w64 (by omega) (by omega) (by omega))) I0 I0 ?_)))))))))))
 refine pM (mT 47 (iv (k + 1 : Nat))) (kN 48 [(1, .box 24 [Zc l]), (2, .box 24 [Zc xs])] [(0, iv top), (3, Jd.lkA top sh xs.length), (5, .box 1 0), (9, .clo 86 [.box 2 0, .box 1 0]), (10, iv k), (11, iv xs[k]), (13, Zc xs), (14, iv xs.length), (15, iv (k + 1 : Nat)), (16, bv true), (46, bv false)] (Zd ?_))
 refine ZY ⟨k + 1, by omega, Jd.noN_succ hs0 (by unfold Jd.nxB; rw [Ct.getD_at (L := xs) (by omega), Ct.getD_at (L := l) (by omega)]; simp only [dT hs2, hs3f, dT hs4, hs5f, decide_true, decide_false, Bool.and_true, Bool.true_and, Bool.false_and, Bool.and_false, Bool.true_or, Bool.false_or, Bool.or_true, Bool.or_false, Bool.not_true, Bool.not_false])⟩ (show xs.length - (k + 1) < xs.length - k by omega) ?_
 exact ZL _ _ rfl (by kernel_rfl) (by kernel_rfl)
 refine Za (pM (mT 11 (iv xs[k])) (oB (lb (Zc l) 5 U24) I0 rfl (oC (ZA (off := 0 * 1) (.tmp 21) (.const (.int .i64 0)) rfl U24 (by kernel_rfl) (by omega) (by omega) rfl) I0 I0 (oA (Zz (X := iv l[0]) (.tmp 22) rfl U3 rfl (Yc l (by omega))) I0 (oC (ZM rfl (dT hs2)) I0 I0 (pM (mT 24 (bv true)) (qM (mT 9 (.clo 86 [.box 2 0, .box 1 0])) (qM (mT 3 (Jd.lkA top sh xs.length)) (qM (mT 10 (iv k)) (gC (ZA (off := k * 3) (.tmp 27) (.tmp 28) rfl U66 (by kernel_rfl) (by omega) (by omega) rfl) I0 I0 (gA (YT (off' := k * 3 + 1) (.tmp 29) rfl U76 rfl (z := 1) (by kernel_rfl) (by decide) rfl) I0 ?_)))))))))))
 refine gA (Zz (X := iv (Jd.lkS top sh xs.length k)) (.tmp 30) rfl U3 rfl (Jd.lk_at1 (by omega))) I0 (t_opG rfl (YU (c := .tmp 26) (xs := #[.tmp 31]) (Cs := [.box 2 0, .box 1 0]) [(2, .box 24 [Zc xs]), (1, .box 24 [Zc l])] (Z6 (sec_c hx hl hl2 (by omega)) hs3f) rfl (by kernel_rfl) rfl (Xs := [iv (Jd.lkS top sh xs.length k)]) rfl rfl rfl rfl rfl) ⟨I0, I0, T0⟩ ⟨rfl, rfl, T0⟩ T0 (qM (mT 32 (bv false)) (qM (mT 0 (iv top)) (gC (ZM rfl (dF hs4)) I0 I0 (qM (mT 35 (bv false)) (qK (qK (qK (qK (qK (qK ?_)))))))))))
 refine qK (qP (Zt (.tmp 36) (.tmp 43) (.const (.bool false)) false (.v (.tuple #[])) (bv false) rfl) (qP (Zt (.tmp 33) (.const (.bool true)) (.tmp 44) false (bv true) (bv false) rfl) (pP (Zt (.tmp 25) (.tmp 45) (.const (.bool false)) true (bv false) (bv false) rfl) (kN 48 [(1, .box 24 [Zc l]), (2, .box 24 [Zc xs])] [(0, iv top), (3, Jd.lkA top sh xs.length), (5, .box 1 0), (9, .clo 86 [.box 2 0, .box 1 0]), (10, iv k), (11, iv xs[k]), (13, Zc xs), (14, iv xs.length), (15, iv k), (16, bv true), (46, bv false)] (Zd (Zq rfl (Zm (Yg (Zd (Za (oC (Yz (c := ((k + 1 : Nat) : Int)) rfl (w64 (by omega) (by omega) (by omega))) I0 I0 ?_)))))))))))
 refine pM (mT 47 (iv (k + 1 : Nat))) (kN 48 [(1, .box 24 [Zc l]), (2, .box 24 [Zc xs])] [(0, iv top), (3, Jd.lkA top sh xs.length), (5, .box 1 0), (9, .clo 86 [.box 2 0, .box 1 0]), (10, iv k), (11, iv xs[k]), (13, Zc xs), (14, iv xs.length), (15, iv (k + 1 : Nat)), (16, bv true), (46, bv false)] (Zd ?_))
 refine ZY ⟨k + 1, by omega, Jd.noN_succ hs0 (by unfold Jd.nxB; rw [Ct.getD_at (L := xs) (by omega), Ct.getD_at (L := l) (by omega)]; simp only [dT hs2, hs3f, dF hs4, decide_true, decide_false, Bool.and_true, Bool.true_and, Bool.false_and, Bool.and_false, Bool.true_or, Bool.false_or, Bool.or_true, Bool.or_false, Bool.not_true, Bool.not_false])⟩ (show xs.length - (k + 1) < xs.length - k by omega) ?_
 exact ZL _ _ rfl (by kernel_rfl) (by kernel_rfl)
 refine Za (pM (mT 11 (iv xs[k])) (oB (lb (Zc l) 5 U24) I0 rfl (oC (ZA (off := 0 * 1) (.tmp 21) (.const (.int .i64 0)) rfl U24 (by kernel_rfl) (by omega) (by omega) rfl) I0 I0 (oA (Zz (X := iv l[0]) (.tmp 22) rfl U3 rfl (Yc l (by omega))) I0 (oC (ZM rfl (dF hs2)) I0 I0 (pM (mT 24 (bv false)) (qK (qK (qK (qK (qK ?_)))))))))))
 refine qK (qK (qK (qK (qK (qK (qK (qK (qK (qK (qK (qK ?_)))))))))))
 refine qK (qK (qK (pP (Zt (.tmp 25) (.tmp 45) (.const (.bool false)) false (.v (.tuple #[])) (bv false) rfl) (kN 48 [(1, .box 24 [Zc l]), (2, .box 24 [Zc xs])] [(0, iv top), (3, Jd.lkA top sh xs.length), (5, .box 1 0), (9, .clo 86 [.box 2 0, .box 1 0]), (10, iv k), (11, iv xs[k]), (13, Zc xs), (14, iv xs.length), (15, iv k), (16, bv true), (46, bv false)] (Zd (Zq rfl (Zm (Yg (Zd (Za (oC (Yz (c := ((k + 1 : Nat) : Int)) rfl (w64 (by omega) (by omega) (by omega))) I0 I0 ?_)))))))))))
 refine pM (mT 47 (iv (k + 1 : Nat))) (kN 48 [(1, .box 24 [Zc l]), (2, .box 24 [Zc xs])] [(0, iv top), (3, Jd.lkA top sh xs.length), (5, .box 1 0), (9, .clo 86 [.box 2 0, .box 1 0]), (10, iv k), (11, iv xs[k]), (13, Zc xs), (14, iv xs.length), (15, iv (k + 1 : Nat)), (16, bv true), (46, bv false)] (Zd ?_))
 refine ZY ⟨k + 1, by omega, Jd.noN_succ hs0 (by unfold Jd.nxB; rw [Ct.getD_at (L := xs) (by omega), Ct.getD_at (L := l) (by omega)]; simp only [dF hs2, decide_true, decide_false, Bool.and_true, Bool.true_and, Bool.false_and, Bool.and_false, Bool.true_or, Bool.false_or, Bool.or_true, Bool.or_false, Bool.not_true, Bool.not_false])⟩ (show xs.length - (k + 1) < xs.length - k by omega) ?_
 exact ZL _ _ rfl (by kernel_rfl) (by kernel_rfl)
 refine Za (oC (Z4 rfl (dF hs1)) I0 I0 (kN 48 [(1, .box 24 [Zc l]), (2, .box 24 [Zc xs])] [(0, iv top), (3, Jd.lkA top sh xs.length), (5, .box 1 0), (9, .clo 86 [.box 2 0, .box 1 0]), (13, Zc xs), (14, iv xs.length), (15, iv k), (16, bv false)] (Zd (Zb (Zq rfl (Yo (Zv (Zv (t_hit (Zd (Zb ?_)))))))))))
 refine Za (pM (aC (.bool false)) (Zr (Zd (Zl ?_))))
 refine Zn Try.results57 (.tmp rfl) ?_
 exact congrArg (fun x : Bool => AV.v (.bool x)) ((Jd.adV_none (by omega) hs0).symm)
end Go.Proofs.Ytoefmdjgnabgfaa
