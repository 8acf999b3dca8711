import Derived.Test.YtoefmdjgnabgfaaGrpgdggcdog
import Derived.Test.YtoefmdjgnabgfaaGrpolnaldjb
import Derived.Test.YtoefmdjgnabgfaaGrpgfeekfoh
import Derived.Test.YtoefmdjgnabgfaaGrpapeoecke
set_option linter.all false
namespace Go.Proofs.Ytoefmdjgnabgfaa
set_option maxRecDepth 100000
set_option maxHeartbeats 6400000
open Go.RowKit Go.Deep
variable {J : World → Prop}
theorem has_c (xs : List Int) (x : Int) (hx : xs.length ≤ 9223372036854775807) : Ctr Try.prog J 64 [Ze xs, iv x] (bv (decide (x ∈ xs))) := by
 refine ZI Try.func64 rfl (by intro X hX; simp only [List.mem_cons, List.not_mem_nil, or_false] at hX; rcases hX with rfl | rfl; exact Z5 _; exact .v _) (n := 18) rfl (by simp) (fun w0 => ?_)
 refine kW 18 [] [(0, Ze xs), (1, iv x)] (Zb (Za (pM (aC (.bool false)) (kN 18 [] [(0, Ze xs), (1, iv x), (4, bv false)] (Zc (Zb (Zb (Za (pM (aC (.int .i64 0)) (kN 18 [] [(0, Ze xs), (1, iv x), (4, bv false), (5, iv 0)] (Zc ?_)))))))))))
 refine Zz ?_
 refine Yb (σ := {k : Nat // k ≤ xs.length ∧ noI xs x k}) (fun s => (ofL [], ofT 18 [(0, Ze xs), (1, iv x), (5, iv s.1)])) (fun s => xs.length - s.1) ⟨0, Nat.zero_le _, noI_zero _ _⟩ (Zw [] _ rfl (by kernel_rfl) (by kernel_rfl)) (fun s => ?_)
 obtain ⟨k, hk0, hs0⟩ := s
 show ETri J w0 (ofL []) (ofT 18 [(0, Ze xs), (1, iv x), (5, iv k)]) _
 refine Zb (Zb ?_)
 by_cases hs1 : ((k : Nat) : Int) < ((xs.length : Nat) : Int)
 refine Za (pM (mT 5 (iv k)) (pM (mT 0 (Ze xs)) (oA (Zi (.tmp 7) rfl U24) I0 (oC (ZT rfl (dT hs1)) I0 I0 (kN 18 [] [(0, Ze xs), (1, iv x), (5, iv k), (9, bv true)] (Zc (Zu rfl (Zk (Zc (Zb (Zz ?_)))))))))))
 refine Zb ?_
 by_cases hs2 : xs[k] = x
 refine Za (pM (mT 0 (Ze xs)) (pM (mT 5 (iv k)) (oC (Zo (off := k * 1) (.tmp 12) (.tmp 13) rfl U24 (by kernel_rfl) (by omega) (by omega) rfl) I0 I0 (oA (Zp (X := iv xs[k]) (.tmp 14) rfl U3 rfl (ZN xs (by omega))) I0 (pM (mT 1 (iv x)) (oC (ZA rfl (dT hs2)) I0 I0 (kN 18 [] [(0, Ze xs), (1, iv x), (5, iv k), (9, bv true), (17, bv true)] (Zc (Zu rfl (Zb (Za ?_)))))))))))
 refine pM (aC (.bool true)) (Zv (Zc (Zt (Zq (Zd (Zd (Zq (Zd ?_))))))))
 refine Zr Try.results64 (.tmp rfl) ?_
 exact congrArg (fun b : Bool => AV.v (.bool b)) ((has_yes (k := k) (by omega) hs2).symm)
 refine Za (pM (mT 0 (Ze xs)) (pM (mT 5 (iv k)) (oC (Zo (off := k * 1) (.tmp 12) (.tmp 13) rfl U24 (by kernel_rfl) (by omega) (by omega) rfl) I0 I0 (oA (Zp (X := iv xs[k]) (.tmp 14) rfl U3 rfl (ZN xs (by omega))) I0 (pM (mT 1 (iv x)) (oC (ZA rfl (dF hs2)) I0 I0 (kN 18 [] [(0, Ze xs), (1, iv x), (5, iv k), (9, bv true), (17, bv false)] (Zc (Zn rfl (Zk (ZU ?_)))))))))))
 refine Zc (Za (pM (mT 5 (iv k)) (oC (ZV (c := ((k + 1 : Nat) : Int)) rfl (w64 (by omega) (by omega) (by omega))) I0 I0 (pM (aT 11 (iv (k + 1 : Nat))) (kN 18 [] [(0, Ze xs), (1, iv x), (5, iv (k + 1 : Nat)), (9, bv true), (17, bv false)] (Zc ?_))))))
 refine ZH ⟨k + 1, by omega, noI_succ' (by omega) hs0 hs2⟩ (show xs.length - (k + 1) < xs.length - k by omega) ?_
 exact Zw [] _ rfl (by kernel_rfl) (by kernel_rfl)
 refine Za (pM (mT 5 (iv k)) (pM (mT 0 (Ze xs)) (oA (Zi (.tmp 7) rfl U24) I0 (oC (ZT rfl (dF hs1)) I0 I0 (kN 18 [] [(0, Ze xs), (1, iv x), (5, iv k), (9, bv false)] (Zc (Zn rfl (Z8 (Zx (Zx (YN ?_)))))))))))
 refine Zc (Zb (Za (pM (aC (.bool false)) (Zv (Zc (Zt ?_))))))
 refine Zr Try.results64 (.tmp rfl) ?_
 exact congrArg (fun b : Bool => AV.v (.bool b)) ((has_no (k := k) (by omega) hs0).symm)
theorem index_c (xs : List Int) (x : Int) (hx : xs.length ≤ 9223372036854775807) : Ctr Try.prog J 85 [Ze xs, iv x] (iv (idxI xs x)) := by
 refine ZI Try.func85 rfl (by intro X hX; simp only [List.mem_cons, List.not_mem_nil, or_false] at hX; rcases hX with rfl | rfl; exact Z5 _; exact .v _) (n := 19) rfl (by simp) (fun w0 => ?_)
 refine kW 19 [] [(0, Ze xs), (1, iv x)] (Zb (Za (pM (aC (.int .i64 0)) (kN 19 [] [(0, Ze xs), (1, iv x), (4, iv 0)] (Zc (Zb (Zb (Za (pM (mT 0 (Ze xs)) (oA (Zi (.tmp 6) rfl U24) I0 (pM (Y5 (.const (.int .i64 0)) (iv 0) rfl) ?_)))))))))))
 refine kN 19 [] [(0, Ze xs), (1, iv x), (4, iv 0), (7, iv xs.length), (8, iv 0)] (Zc (Zz ?_))
 refine Yb (σ := {k : Nat // k ≤ xs.length ∧ noI xs x k}) (fun s => (ofL [], ofT 19 [(0, Ze xs), (1, iv x), (7, iv xs.length), (8, iv s.1)])) (fun s => xs.length - s.1) ⟨0, Nat.zero_le _, noI_zero _ _⟩ (Zw [] _ rfl (by kernel_rfl) (by kernel_rfl)) (fun s => ?_)
 obtain ⟨k, hk0, hs0⟩ := s
 show ETri J w0 (ofL []) (ofT 19 [(0, Ze xs), (1, iv x), (7, iv xs.length), (8, iv k)]) _
 refine Zb ?_
 by_cases hs1 : ((k : Nat) : Int) < ((xs.length : Nat) : Int)
 refine Za (oC (ZT rfl (dT hs1)) I0 I0 (kN 19 [] [(0, Ze xs), (1, iv x), (7, iv xs.length), (8, iv k), (9, bv true)] (Zc (Zb (Zu rfl (Zk (Zc (Zb (Zz (Zb (Za ?_)))))))))))
 refine pM (mT 8 (iv k)) (pM (aT 10 (iv k)) (kN 19 [] [(0, Ze xs), (1, iv x), (5, iv k), (7, iv xs.length), (8, iv k), (9, bv true)] (Zc (Zb ?_))))
 by_cases hs2 : x = xs[k]
 refine Za (pM (mT 1 (iv x)) (pM (mT 0 (Ze xs)) (pM (mT 5 (iv k)) (oC (Zo (off := k * 1) (.tmp 12) (.tmp 13) rfl U24 (by kernel_rfl) (by omega) (by omega) rfl) I0 I0 (oA (Zp (X := iv xs[k]) (.tmp 14) rfl U3 rfl (ZN xs (by omega))) I0 (oC (ZA rfl (dT hs2)) I0 I0 (kN 19 [] [(0, Ze xs), (1, iv x), (5, iv k), (7, iv xs.length), (8, iv k), (9, bv true), (16, bv true)] (Zc (Zu rfl (Zb (Za ?_)))))))))))
 refine pM (mT 5 (iv k)) (pM (aT 17 (iv k)) (Zv (Zc (Zt (Zq (Zd (Zd (Zq (Zd ?_)))))))))
 refine Zr Try.results85 (.tmp rfl) ?_
 exact congrArg (fun x : Int => AV.v (.int .i64 x)) (idx_yes (by omega) hs0 hs2)
 refine Za (pM (mT 1 (iv x)) (pM (mT 0 (Ze xs)) (pM (mT 5 (iv k)) (oC (Zo (off := k * 1) (.tmp 12) (.tmp 13) rfl U24 (by kernel_rfl) (by omega) (by omega) rfl) I0 I0 (oA (Zp (X := iv xs[k]) (.tmp 14) rfl U3 rfl (ZN xs (by omega))) I0 (oC (ZA rfl (dF hs2)) I0 I0 (kN 19 [] [(0, Ze xs), (1, iv x), (5, iv k), (7, iv xs.length), (8, iv k), (9, bv true), (16, bv false)] (Zc (Zn rfl (Zk (ZU ?_)))))))))))
 refine Zc (Za (oC (ZV (c := ((k + 1 : Nat) : Int)) rfl (w64 (by omega) (by omega) (by omega))) I0 I0 (pM (mT 18 (iv (k + 1 : Nat))) (kN 19 [] [(0, Ze xs), (1, iv x), (5, iv k), (7, iv xs.length), (8, iv (k + 1 : Nat)), (9, bv true), (16, bv false)] (Zc ?_)))))
 refine ZH ⟨k + 1, by omega, noI_succ (by omega) hs0 hs2⟩ (show xs.length - (k + 1) < xs.length - k by omega) ?_
 exact Zw [] _ rfl (by kernel_rfl) (by kernel_rfl)
 refine Za (oC (ZT rfl (dF hs1)) I0 I0 (kN 19 [] [(0, Ze xs), (1, iv x), (7, iv xs.length), (8, iv k), (9, bv false)] (Zc (Zb (Zn rfl (Z8 (Zx (Zx (YN (Zc (Zb ?_)))))))))))
 refine Za (pM (aC (.int .i64 (-1))) (Zv (Zc (Zt ?_))))
 refine Zr Try.results85 (.tmp rfl) ?_
 exact congrArg (fun x : Int => AV.v (.int .i64 x)) (idx_no (k := k) (by omega) hs0)
theorem Y0 (xs : List Int) (x : Int) (hx : xs.length ≤ 9223372036854775807) : Ctr Try.prog J 56 [Ze xs, iv x] (bv (decide (x ∈ xs))) := by
 refine ZI Try.func56 rfl (by intro X hX; simp only [List.mem_cons, List.not_mem_nil, or_false] at hX; rcases hX with rfl | rfl; exact Z5 _; exact .v _) (n := 9) rfl (by simp) (fun w0 => ?_)
 refine kW 9 [] [(0, Ze xs), (1, iv x)] (Zb (Za (pM (aC (.bool false)) (kN 9 [] [(0, Ze xs), (1, iv x), (4, bv false)] (Zc (Zb (Za (pM (mT 0 (Ze xs)) (pM (mT 1 (iv x)) (oD (Zm (c := .func 85) (xs := #[.tmp 5, .tmp 6]) [] (index_c xs x hx) rfl (by kernel_rfl) rfl (Xs := [Ze xs, iv x]) rfl rfl rfl) I0 I0 I0 (oC (Y9 rfl rfl) I0 I0 ?_)))))))))))
 refine pM (aT 8 (bv (decide (0 ≤ idxI xs x)))) (Zv (Zc (Zt ?_)))
 refine Zr Try.results56 (.tmp rfl) ?_
 exact congrArg (fun b : Bool => AV.v (.bool b)) (idx_has xs x)
theorem adjacent_c {p : Fm} (HP : FmOk p) (xs : List Int) : Ctr Try.prog J 115 [.agg (cFm p), Ze xs] (iv (adjE p xs)) := by
 refine ZI Try.func115 rfl (by intro X hX; simp only [List.mem_cons, List.not_mem_nil, or_false] at hX; rcases hX with rfl | rfl; exact ZD (Yo p); exact Z5 _) (n := 36) rfl (by simp) (fun w0 => ?_)
 refine kW 36 [] [(0, .agg (cFm p)), (1, Ze xs)] (Zb (Za (Yl rfl (Ya (X := .agg (cFm p)) (k := 1) (.tmp 0) rfl rfl) ⟨I0, T0⟩ T0 rfl (pM (aC (.int .i64 0)) (kN 36 [(1, .box 27 (cFm p))] [(1, Ze xs), (2, .box 1 0), (4, iv 0)] (Zc (Zb (Zz (Zb ?_)))))))))
 by_cases hs1 : ((xs.length : Nat) : Int) = 0
 refine Za (pM (mT 1 (Ze xs)) (oA (Zi (.tmp 6) rfl U24) I0 (oC (ZA rfl (dT hs1)) I0 I0 (pM (aT 8 (bv true)) (kN 36 [(1, .box 27 (cFm p))] [(1, Ze xs), (2, .box 1 0), (4, iv 0), (5, bv true)] (Zc (Zu rfl (Zb (Za (pM (aC (.int .i64 0)) (Zv ?_)))))))))))
 refine Zc (Zt (Zq (Zd ?_)))
 refine Zr Try.results115 (.tmp rfl) ?_
 exact congrArg (fun x : Int => AV.v (.int .i64 x)) ((adj_0 hs1).symm)
 refine Za (pM (mT 1 (Ze xs)) (oA (Zi (.tmp 6) rfl U24) I0 (oC (ZA rfl (dF hs1)) I0 I0 (pM (aT 8 (bv false)) (kN 36 [(1, .box 27 (cFm p))] [(1, Ze xs), (2, .box 1 0), (4, iv 0), (5, bv false)] (Zc (Zn rfl (Zb ?_))))))))
 by_cases hs2 : p.top = 1
 refine Za (oA (fb 1 2 U27 1) I0 (oB (lb (iv p.top) 10 U3) I0 rfl (oC (ZA rfl (dT hs2)) I0 I0 (pM (aT 12 (bv true)) (kN 36 [(1, .box 27 (cFm p))] [(1, Ze xs), (2, .box 1 0), (4, iv 0), (9, bv true)] (Zc (Zu rfl (Zb (Za (pM (aC (.int .i64 6)) (Zv ?_)))))))))))
 refine Zc (Zt (Zq (Zd ?_)))
 refine Zr Try.results115 (.tmp rfl) ?_
 exact congrArg (fun x : Int => AV.v (.int .i64 x)) ((adj_6 hs1 hs2).symm)
 refine Za (oA (fb 1 2 U27 1) I0 (oB (lb (iv p.top) 10 U3) I0 rfl (oC (ZA rfl (dF hs2)) I0 I0 (pM (aT 12 (bv false)) (kN 36 [(1, .box 27 (cFm p))] [(1, Ze xs), (2, .box 1 0), (4, iv 0), (9, bv false)] (Zc (Zn rfl (Zb ?_))))))))
 by_cases hs3 : ((xs.length : Nat) : Int) = 2
 refine Za (pM (mT 1 (Ze xs)) (oA (Zi (.tmp 14) rfl U24) I0 (oC (ZE rfl (dT' hs3)) I0 I0 (pM (aT 16 (bv false)) (kN 36 [(1, .box 27 (cFm p))] [(1, Ze xs), (2, .box 1 0), (4, iv 0), (13, bv false)] (Zc (Zn rfl (Zb ?_))))))))
 by_cases hs4 : (ixB p.states.length xs[0]) = true
 by_cases hs5 : (ixB p.states.length xs[1]) = true
 refine ZQ (dM (mT 1 (Ze xs)) (dC (Zo (off := 0 * 1) (.tmp 18) (.const (.int .i64 0)) rfl U24 (by kernel_rfl) (by omega) (by omega) rfl) I0 I0 (dA (Zp (X := iv xs[0]) (.tmp 19) rfl U3 rfl (ZN xs (by omega))) I0 (dA (fb 2 2 U27 1) I0 (dB (lb (Yj p.states) 21 U22) I0 rfl (dA (Zi (.tmp 22) rfl U22) I0 (dD (Zm (c := .func 74) (xs := #[.tmp 20, .tmp 23]) [] (ZJ (isIndex_c xs[0] p.states.length HP.lstates) hs4) rfl (by kernel_rfl) rfl (Xs := [iv xs[0], iv p.states.length]) rfl rfl rfl) I0 I0 I0 (dA (ZC rfl rfl) I0 (dM (mT 25 (bv false)) (dM (mT 1 (Ze xs)) (dC (Zo (off := 1 * 1) (.tmp 27) (.const (.int .i64 1)) rfl U24 (by kernel_rfl) (by omega) (by omega) rfl) I0 I0 (dA (Zp (X := iv xs[1]) (.tmp 28) rfl U3 rfl (ZN xs (by omega))) I0 (dA (fb 2 2 U27 1) I0 (dB (lb (Yj p.states) 30 U22) I0 rfl (dA (Zi (.tmp 31) rfl U22) I0 (dD (Zm (c := .func 74) (xs := #[.tmp 29, .tmp 32]) [] (ZJ (isIndex_c xs[1] p.states.length HP.lstates) hs5) rfl (by kernel_rfl) rfl (Xs := [iv xs[1], iv p.states.length]) rfl rfl rfl) I0 I0 I0 (dA (ZC rfl rfl) I0 (dP (Zf (.tmp 26) (.const (.bool true)) (.tmp 34) false (bv true) (bv false) rfl) (dM (aT 35 (bv false)) (dE ?_)))))))))))))))))))) (by kernel_rfl)
 show ETri J w0 _ _ _
 refine kW 36 [] [(4, iv 0), (17, bv false)] (Zc (Zn rfl (Zk (ZU (Zc (Zb (Za (pM (aC (.int .i64 0)) (Zv (Zc (Zt ?_)))))))))))
 refine Zr Try.results115 (.tmp rfl) ?_
 exact congrArg (fun x : Int => AV.v (.int .i64 x)) ((adj_k hs1 hs2 hs3 (adj_two hs3 hs4 hs5)).symm)
 have hs5f : (ixB p.states.length xs[1]) = false := by simpa using hs5
 refine ZQ (dM (mT 1 (Ze xs)) (dC (Zo (off := 0 * 1) (.tmp 18) (.const (.int .i64 0)) rfl U24 (by kernel_rfl) (by omega) (by omega) rfl) I0 I0 (dA (Zp (X := iv xs[0]) (.tmp 19) rfl U3 rfl (ZN xs (by omega))) I0 (dA (fb 2 2 U27 1) I0 (dB (lb (Yj p.states) 21 U22) I0 rfl (dA (Zi (.tmp 22) rfl U22) I0 (dD (Zm (c := .func 74) (xs := #[.tmp 20, .tmp 23]) [] (ZJ (isIndex_c xs[0] p.states.length HP.lstates) hs4) rfl (by kernel_rfl) rfl (Xs := [iv xs[0], iv p.states.length]) rfl rfl rfl) I0 I0 I0 (dA (ZC rfl rfl) I0 (dM (mT 25 (bv false)) (dM (mT 1 (Ze xs)) (dC (Zo (off := 1 * 1) (.tmp 27) (.const (.int .i64 1)) rfl U24 (by kernel_rfl) (by omega) (by omega) rfl) I0 I0 (dA (Zp (X := iv xs[1]) (.tmp 28) rfl U3 rfl (ZN xs (by omega))) I0 (dA (fb 2 2 U27 1) I0 (dB (lb (Yj p.states) 30 U22) I0 rfl (dA (Zi (.tmp 31) rfl U22) I0 (dD (Zm (c := .func 74) (xs := #[.tmp 29, .tmp 32]) [] (ZJ (isIndex_c xs[1] p.states.length HP.lstates) hs5f) rfl (by kernel_rfl) rfl (Xs := [iv xs[1], iv p.states.length]) rfl rfl rfl) I0 I0 I0 (dA (ZC rfl rfl) I0 (dP (Zf (.tmp 26) (.const (.bool true)) (.tmp 34) false (bv true) (bv true) rfl) (dM (aT 35 (bv true)) (dE ?_)))))))))))))))))))) (by kernel_rfl)
 show ETri J w0 _ _ _
 refine kW 36 [] [(4, iv 0), (17, bv true)] (Zc (Zu rfl (Zb (Za (pM (aC (.int .i64 5)) (Zv (Zc (Zt (Zq (Zd ?_))))))))))
 refine Zr Try.results115 (.tmp rfl) ?_
 exact congrArg (fun x : Int => AV.v (.int .i64 x)) ((adj_5 hs1 hs2 hs3 (k := 1) (by omega) hs5f).symm)
 have hs4f : (ixB p.states.length xs[0]) = false := by simpa using hs4
 refine ZQ (dM (mT 1 (Ze xs)) (dC (Zo (off := 0 * 1) (.tmp 18) (.const (.int .i64 0)) rfl U24 (by kernel_rfl) (by omega) (by omega) rfl) I0 I0 (dA (Zp (X := iv xs[0]) (.tmp 19) rfl U3 rfl (ZN xs (by omega))) I0 (dA (fb 2 2 U27 1) I0 (dB (lb (Yj p.states) 21 U22) I0 rfl (dA (Zi (.tmp 22) rfl U22) I0 (dD (Zm (c := .func 74) (xs := #[.tmp 20, .tmp 23]) [] (ZJ (isIndex_c xs[0] p.states.length HP.lstates) hs4f) rfl (by kernel_rfl) rfl (Xs := [iv xs[0], iv p.states.length]) rfl rfl rfl) I0 I0 I0 (dA (ZC rfl rfl) I0 (dM (mT 25 (bv true)) (dK (dK (dK (dK (dK (dK (dK (dK (dP (Zf (.tmp 26) (.const (.bool true)) (.tmp 34) true (bv true) (.v (.tuple #[])) rfl) (dM (aT 35 (bv true)) (dE ?_)))))))))))))))))))) (by kernel_rfl)
 show ETri J w0 _ _ _
 refine kW 36 [] [(4, iv 0), (17, bv true)] (Zc (Zu rfl (Zb (Za (pM (aC (.int .i64 5)) (Zv (Zc (Zt (Zq (Zd ?_))))))))))
 refine Zr Try.results115 (.tmp rfl) ?_
 exact congrArg (fun x : Int => AV.v (.int .i64 x)) ((adj_5 hs1 hs2 hs3 (k := 0) (by omega) hs4f).symm)
 refine Za (pM (mT 1 (Ze xs)) (oA (Zi (.tmp 14) rfl U24) I0 (oC (ZE rfl (dF' hs3)) I0 I0 (pM (aT 16 (bv true)) (kN 36 [(1, .box 27 (cFm p))] [(1, Ze xs), (2, .box 1 0), (4, iv 0), (13, bv true)] (Zc (Zu rfl (Zb (Za (pM (aC (.int .i64 1)) (Zv ?_)))))))))))
 refine Zc (Zt (Zq (Zd ?_)))
 refine Zr Try.results115 (.tmp rfl) ?_
 exact congrArg (fun x : Int => AV.v (.int .i64 x)) ((adj_1 hs1 hs2 hs3).symm)
theorem badError_c {p : Fm} (HP : FmOk p) {q : Pq} (HQ : PqOk q) : Ctr Try.prog J 84 [.agg (cFm p), .agg (cPq q)] (iv (badE p q)) := by
 have l1 := HQ.lbad
 refine ZI Try.func84 rfl (by intro X hX; simp only [List.mem_cons, List.not_mem_nil, or_false] at hX; rcases hX with rfl | rfl; exact ZD (Yo p); exact ZD (Yr q)) (n := 47) rfl (by simp) (fun w0 => ?_)
 refine kW 47 [] [(0, .agg (cFm p)), (1, .agg (cPq q))] (Zb (Za (Yl rfl (Ya (X := .agg (cFm p)) (k := 1) (.tmp 0) rfl rfl) ⟨I0, T0⟩ T0 rfl (Yl rfl (Ya (X := .agg (cPq q)) (k := 2) (.tmp 1) rfl rfl) ⟨I0, T0⟩ T0 rfl (pM (aC (.int .i64 0)) (kN 47 [(1, .box 27 (cFm p)), (2, .box 30 (cPq q))] [(2, .box 1 0), (3, .box 2 0), (4, iv 0)] (Zc (Zb (Zb ?_)))))))))
 by_cases hs1 : ((q.bad.length : Nat) : Int) = 0
 by_cases hs2 : ((q.adj.length : Nat) : Int) = 0
 refine Za (oA (fb 3 3 U30 1) I0 (oB (lb (slA 2 cRw q.bad) 8 U28) I0 rfl (oA (Zi (.tmp 9) rfl U28) I0 (oC (ZA rfl (dT hs1)) I0 I0 (pM (mT 11 (bv true)) (gA (fb 4 3 U30 1) I0 (gB (lb (Ze q.adj) 13 U24) I0 rfl (gA (Zi (.tmp 14) rfl U24) I0 (gC (ZA rfl (dT hs2)) I0 I0 (pP (Zf (.tmp 12) (.tmp 16) (.const (.bool false)) true (bv true) (bv false) rfl) (kN 47 [(1, .box 27 (cFm p)), (2, .box 30 (cPq q))] [(2, .box 1 0), (3, .box 2 0), (4, iv 0), (17, bv true)] ?_)))))))))))
 refine Zc (Zu rfl (Zb (Za (pM (aC (.int .i64 1)) (Zv (Zc (Zt (Zd ?_))))))))
 refine Zr Try.results84 (.tmp rfl) ?_
 exact congrArg (fun x : Int => AV.v (.int .i64 x)) ((bad_0 hs1 hs2).symm)
 refine Za (oA (fb 3 3 U30 1) I0 (oB (lb (slA 2 cRw q.bad) 8 U28) I0 rfl (oA (Zi (.tmp 9) rfl U28) I0 (oC (ZA rfl (dT hs1)) I0 I0 (pM (mT 11 (bv true)) (gA (fb 4 3 U30 1) I0 (gB (lb (Ze q.adj) 13 U24) I0 rfl (gA (Zi (.tmp 14) rfl U24) I0 (gC (ZA rfl (dF hs2)) I0 I0 (pP (Zf (.tmp 12) (.tmp 16) (.const (.bool false)) true (bv false) (bv false) rfl) (kN 47 [(1, .box 27 (cFm p)), (2, .box 30 (cPq q))] [(2, .box 1 0), (3, .box 2 0), (4, iv 0), (17, bv false)] ?_)))))))))))
 refine Zc (Zn rfl (Zk (Zc (Zb (Zb (Za (oA (fb 3 3 U30 1) I0 (oB (lb (slA 2 cRw q.bad) 18 U28) I0 rfl (oA (Zi (.tmp 19) rfl U28) I0 (oC (Z9 rfl (dF (show ¬ 3 < ((q.bad.length : Nat) : Int) by omega))) I0 I0 (kN 47 [(1, .box 27 (cFm p)), (2, .box 30 (cPq q))] [(2, .box 1 0), (3, .box 2 0), (4, iv 0), (21, bv false)] ?_)))))))))))
 refine Zc (Zn rfl (Zk (Zc (Zb (Zb (Za (oA (fb 3 3 U30 1) I0 (oB (lb (slA 2 cRw q.bad) 22 U28) I0 rfl (oA (Zi (.tmp 23) rfl U28) I0 (pM (Y5 (.const (.int .i64 0)) (iv 0) rfl) (kN 47 [(1, .box 27 (cFm p)), (2, .box 30 (cPq q))] [(2, .box 1 0), (3, .box 2 0), (4, iv 0), (23, slA 2 cRw q.bad), (24, iv q.bad.length), (25, iv 0)] ?_)))))))))))
 refine Zc ?_
 refine Ku (cntOk p.states.length q.bad q.bad.length) (ofL [(1, .box 27 (cFm p)), (2, .box 30 (cPq q))]) (ofT 47 [(2, .box 1 0), (3, .box 2 0)]) ?_ (fun CNT => ?_)
 refine Zz ?_
 refine Yb (σ := {k : Nat // k ≤ q.bad.length ∧ cntOk p.states.length q.bad k}) (fun s => (ofL [(1, .box 27 (cFm p)), (2, .box 30 (cPq q))], ofT 47 [(2, .box 1 0), (3, .box 2 0), (23, slA 2 cRw q.bad), (24, iv q.bad.length), (25, iv s.1)])) (fun s => q.bad.length - s.1) ⟨0, Nat.zero_le _, cntOk_zero _ _⟩ (Zw _ _ rfl (by kernel_rfl) (by kernel_rfl)) (fun s => ?_)
 obtain ⟨k, hk0, hs0⟩ := s
 show ETri J w0 (ofL [(1, .box 27 (cFm p)), (2, .box 30 (cPq q))]) (ofT 47 [(2, .box 1 0), (3, .box 2 0), (23, slA 2 cRw q.bad), (24, iv q.bad.length), (25, iv k)]) _
 refine Zb ?_
 by_cases hs3 : ((k : Nat) : Int) < ((q.bad.length : Nat) : Int)
 refine Za (oC (ZT rfl (dT hs3)) I0 I0 (kN 47 [(1, .box 27 (cFm p)), (2, .box 30 (cPq q))] [(2, .box 1 0), (3, .box 2 0), (23, slA 2 cRw q.bad), (24, iv q.bad.length), (25, iv k), (26, bv true)] (Zc (Zb (Zu rfl (Zk (Zc (Zb (Zz (Zb (Za ?_)))))))))))
 refine oC (Zo (off := k * 2) (.tmp 23) (.tmp 25) rfl U28 (by kernel_rfl) (by omega) (by omega) rfl) I0 I0 (oA (Y6 (z := 2) (.tmp 27) rfl U53 rfl (by kernel_rfl) (Kq lenRw q.bad k (by omega)) rfl) I0 (Yl rfl (sp_alloc (z := .agg #[.slice none 0 0, .int .i64 0]) (k := 3) rfl (by kernel_rfl)) T0 T0 rfl (Yl rfl (Kf (T0 := 53) (X := .agg (cRw q.bad[k])) (cs := [.v (.slice none 0 0), iv 0]) (ds := cRw q.bad[k]) (z := 2) (.tmp 6) (.tmp 28) rfl (by kernel_rfl) (by kernel_rfl) (by kernel_rfl) (of_decide_eq_true (by kernel_rfl)) (by kernel_rfl)) ⟨I0, I0, T0⟩ ⟨rfl, T0⟩ rfl (kN 47 [(1, .box 27 (cFm p)), (2, .box 30 (cPq q)), (3, .box 53 (cRw q.bad[k]))] [(2, .box 1 0), (3, .box 2 0), (6, .box 3 0), (23, slA 2 cRw q.bad), (24, iv q.bad.length), (25, iv k), (26, bv true)] (Zc (Zb (Zb (Za (oA (fb 0 6 U53 1) I0 (oB (lb (Ze q.bad[k].1) 29 U24) I0 rfl (oA (fb 2 2 U27 1) I0 ?_)))))))))))
 refine oB (lb (Yj p.states) 31 U22) I0 rfl (oA (Zi (.tmp 32) rfl U22) I0 (oD (Zm (c := .func 49) (xs := #[.tmp 30, .tmp 33]) [] (KP p.states.length HP.lstates q.bad[k].1 (HQ.bad q.bad[k] (List.getElem_mem (by omega))).1) rfl (by kernel_rfl) rfl (Xs := [Ze q.bad[k].1, iv p.states.length]) rfl rfl rfl) I0 I0 I0 (pM (aT 34 (iv (someE p.states.length q.bad[k].1))) (kN 47 [(1, .box 27 (cFm p)), (2, .box 30 (cPq q)), (3, .box 53 (cRw q.bad[k]))] [(2, .box 1 0), (3, .box 2 0), (6, .box 3 0), (7, iv (someE p.states.length q.bad[k].1)), (23, slA 2 cRw q.bad), (24, iv q.bad.length), (25, iv k), (26, bv true)] (Zc (Zb ?_))))))
 by_cases hs4 : someE p.states.length q.bad[k].1 = 0
 refine Za (pM (mT 7 (iv (someE p.states.length q.bad[k].1))) (oC (ZE rfl (dT' hs4)) I0 I0 (kN 47 [(1, .box 27 (cFm p)), (2, .box 30 (cPq q)), (3, .box 53 (cRw q.bad[k]))] [(2, .box 1 0), (3, .box 2 0), (6, .box 3 0), (7, iv (someE p.states.length q.bad[k].1)), (23, slA 2 cRw q.bad), (24, iv q.bad.length), (25, iv k), (26, bv true), (36, bv false)] (Zc (Zn rfl (Zk (Zc (Zb ?_))))))))
 by_cases hs5 : (inB 1 3 q.bad[k].2) = true
 refine Za (oA (fb 1 6 U53 1) I0 (oB (lb (iv q.bad[k].2) 38 U3) I0 rfl (Yl rfl (Zm (c := .func 42) (xs := #[.tmp 39, .const (.int .i64 1), .const (.int .i64 3)]) [] (ZJ (between_c q.bad[k].2 1 3) hs5) rfl (by kernel_rfl) rfl (Xs := [iv q.bad[k].2, iv 1, iv 3]) rfl rfl rfl) ⟨I0, I0, I0, I0, T0⟩ T0 T0 (oA (ZC rfl rfl) I0 (kN 47 [(1, .box 27 (cFm p)), (2, .box 30 (cPq q)), (3, .box 53 (cRw q.bad[k]))] [(2, .box 1 0), (3, .box 2 0), (6, .box 3 0), (7, iv (someE p.states.length q.bad[k].1)), (23, slA 2 cRw q.bad), (24, iv q.bad.length), (25, iv k), (26, bv true), (36, bv false), (41, bv false)] (Zc (Zn rfl (Zk (ZU (Zc (Za ?_)))))))))))
 refine oC (ZV (c := ((k + 1 : Nat) : Int)) rfl (w64 (by omega) (by omega) (by omega))) I0 I0 (pM (mT 42 (iv (k + 1 : Nat))) (kN 47 [(1, .box 27 (cFm p)), (2, .box 30 (cPq q)), (3, .box 53 (cRw q.bad[k]))] [(2, .box 1 0), (3, .box 2 0), (6, .box 3 0), (7, iv (someE p.states.length q.bad[k].1)), (23, slA 2 cRw q.bad), (24, iv q.bad.length), (25, iv (k + 1 : Nat)), (26, bv true), (36, bv false), (41, bv false)] (Zc ?_)))
 refine ZH ⟨k + 1, by omega, cntOk_succ (by omega) hs0 (cnt_0 (some_z hs4).1 (some_z hs4).2 hs5)⟩ (show q.bad.length - (k + 1) < q.bad.length - k by omega) ?_
 exact Zw _ _ rfl (by kernel_rfl) (by kernel_rfl)
 have hs5f : (inB 1 3 q.bad[k].2) = false := by simpa using hs5
 refine Za (oA (fb 1 6 U53 1) I0 (oB (lb (iv q.bad[k].2) 38 U3) I0 rfl (Yl rfl (Zm (c := .func 42) (xs := #[.tmp 39, .const (.int .i64 1), .const (.int .i64 3)]) [] (ZJ (between_c q.bad[k].2 1 3) hs5f) rfl (by kernel_rfl) rfl (Xs := [iv q.bad[k].2, iv 1, iv 3]) rfl rfl rfl) ⟨I0, I0, I0, I0, T0⟩ T0 T0 (oA (ZC rfl rfl) I0 (kN 47 [(1, .box 27 (cFm p)), (2, .box 30 (cPq q)), (3, .box 53 (cRw q.bad[k]))] [(2, .box 1 0), (3, .box 2 0), (6, .box 3 0), (7, iv (someE p.states.length q.bad[k].1)), (23, slA 2 cRw q.bad), (24, iv q.bad.length), (25, iv k), (26, bv true), (36, bv false), (41, bv true)] (Zc (Zu rfl (Zb (Za (pM (aC (.int .i64 1)) (Zv ?_)))))))))))
 refine Zc (Zt (Zq (Zd (Zd (Zq (Yi (Zd ?_)))))))
 refine Zr Try.results84 (.tmp rfl) ?_
 exact congrArg (fun x : Int => AV.v (.int .i64 x)) ((bad_c ⟨(fun h => hs2 h.2), (show ¬ 3 < ((q.bad.length : Nat) : Int) by omega)⟩ (k := k) (by omega) hs0 (cnt_b (some_z hs4).1 (some_z hs4).2 hs5f) (by decide)).symm)
 refine Za (pM (mT 7 (iv (someE p.states.length q.bad[k].1))) (oC (ZE rfl (dF' hs4)) I0 I0 (kN 47 [(1, .box 27 (cFm p)), (2, .box 30 (cPq q)), (3, .box 53 (cRw q.bad[k]))] [(2, .box 1 0), (3, .box 2 0), (6, .box 3 0), (7, iv (someE p.states.length q.bad[k].1)), (23, slA 2 cRw q.bad), (24, iv q.bad.length), (25, iv k), (26, bv true), (36, bv true)] (Zc (Zu rfl (Zb (Za (pM (mT 7 (iv (someE p.states.length q.bad[k].1))) (pM (aT 37 (iv (someE p.states.length q.bad[k].1))) (Zv (Zc ?_)))))))))))
 refine Zt (Zd (Zq (Zd (Zd (Zq (Yi (Zd ?_)))))))
 refine Zr Try.results84 (.tmp rfl) ?_
 exact congrArg (fun x : Int => AV.v (.int .i64 x)) ((bad_c ⟨(fun h => hs2 h.2), (show ¬ 3 < ((q.bad.length : Nat) : Int) by omega)⟩ (k := k) (by omega) hs0 (some_ne hs4) hs4).symm)
 refine Za (oC (ZT rfl (dF hs3)) I0 I0 (kN 47 [(1, .box 27 (cFm p)), (2, .box 30 (cPq q))] [(2, .box 1 0), (3, .box 2 0), (23, slA 2 cRw q.bad), (24, iv q.bad.length), (25, iv k), (26, bv false)] (Zc (Zb (Zn rfl (Z8 (Zx (Zx (YN ?_)))))))))
 exact Z7 (by have : k = q.bad.length := (by omega); subst this; exact hs0) (Zw _ _ rfl (by kernel_rfl) (by kernel_rfl))
 refine Zc (Zb (Za (oB (Zj (Y := .box 27 (cFm p)) (ds := cFm p) (z := 10) (.tmp 2) rfl U27 rfl (by kernel_rfl) (by decide) (by kernel_rfl) (by kernel_rfl)) I0 rfl (oA (fb 4 3 U30 1) I0 (oB (lb (Ze q.adj) 44 U24) I0 rfl (oD (Zm (c := .func 115) (xs := #[.tmp 43, .tmp 45]) [] (adjacent_c HP q.adj) rfl (by kernel_rfl) rfl (Xs := [.agg (cFm p), Ze q.adj]) rfl rfl rfl) I0 I0 I0 (pM (aT 46 (iv (adjE p q.adj))) (Zv (Zc (Zt ?_))))))))))
 refine Zr Try.results84 (.tmp rfl) ?_
 exact congrArg (fun x : Int => AV.v (.int .i64 x)) ((bad_z ⟨(fun h => hs2 h.2), (show ¬ 3 < ((q.bad.length : Nat) : Int) by omega)⟩ CNT).symm)
 refine Za (oA (fb 3 3 U30 1) I0 (oB (lb (slA 2 cRw q.bad) 8 U28) I0 rfl (oA (Zi (.tmp 9) rfl U28) I0 (oC (ZA rfl (dF hs1)) I0 I0 (pM (mT 11 (bv false)) (qK (qK (qK (qK (pP (Zf (.tmp 12) (.tmp 16) (.const (.bool false)) false (.v (.tuple #[])) (bv false) rfl) (kN 47 [(1, .box 27 (cFm p)), (2, .box 30 (cPq q))] [(2, .box 1 0), (3, .box 2 0), (4, iv 0), (17, bv false)] ?_)))))))))))
 refine Zc (Zn rfl (Zk (Zc (Zb (Zb ?_)))))
 by_cases hs6 : 3 < ((q.bad.length : Nat) : Int)
 refine Za (oA (fb 3 3 U30 1) I0 (oB (lb (slA 2 cRw q.bad) 18 U28) I0 rfl (oA (Zi (.tmp 19) rfl U28) I0 (oC (Z9 rfl (dT hs6)) I0 I0 (kN 47 [(1, .box 27 (cFm p)), (2, .box 30 (cPq q))] [(2, .box 1 0), (3, .box 2 0), (4, iv 0), (21, bv true)] (Zc (Zu rfl (Zb (Za (pM (aC (.int .i64 4)) (Zv ?_)))))))))))
 refine Zc (Zt (Zd ?_))
 refine Zr Try.results84 (.tmp rfl) ?_
 exact congrArg (fun x : Int => AV.v (.int .i64 x)) ((bad_4 (fun h => hs1 h.1) hs6).symm)
 refine Za (oA (fb 3 3 U30 1) I0 (oB (lb (slA 2 cRw q.bad) 18 U28) I0 rfl (oA (Zi (.tmp 19) rfl U28) I0 (oC (Z9 rfl (dF hs6)) I0 I0 (kN 47 [(1, .box 27 (cFm p)), (2, .box 30 (cPq q))] [(2, .box 1 0), (3, .box 2 0), (4, iv 0), (21, bv false)] (Zc (Zn rfl (Zk (Zc (Zb (Zb ?_)))))))))))
 refine Za (oA (fb 3 3 U30 1) I0 (oB (lb (slA 2 cRw q.bad) 22 U28) I0 rfl (oA (Zi (.tmp 23) rfl U28) I0 (pM (Y5 (.const (.int .i64 0)) (iv 0) rfl) (kN 47 [(1, .box 27 (cFm p)), (2, .box 30 (cPq q))] [(2, .box 1 0), (3, .box 2 0), (4, iv 0), (23, slA 2 cRw q.bad), (24, iv q.bad.length), (25, iv 0)] (Zc ?_))))))
 refine Ku (cntOk p.states.length q.bad q.bad.length) (ofL [(1, .box 27 (cFm p)), (2, .box 30 (cPq q))]) (ofT 47 [(2, .box 1 0), (3, .box 2 0)]) ?_ (fun CNT => ?_)
 refine Zz ?_
 refine Yb (σ := {k : Nat // k ≤ q.bad.length ∧ cntOk p.states.length q.bad k}) (fun s => (ofL [(1, .box 27 (cFm p)), (2, .box 30 (cPq q))], ofT 47 [(2, .box 1 0), (3, .box 2 0), (23, slA 2 cRw q.bad), (24, iv q.bad.length), (25, iv s.1)])) (fun s => q.bad.length - s.1) ⟨0, Nat.zero_le _, cntOk_zero _ _⟩ (Zw _ _ rfl (by kernel_rfl) (by kernel_rfl)) (fun s => ?_)
 obtain ⟨k, hk0, hs0⟩ := s
 show ETri J w0 (ofL [(1, .box 27 (cFm p)), (2, .box 30 (cPq q))]) (ofT 47 [(2, .box 1 0), (3, .box 2 0), (23, slA 2 cRw q.bad), (24, iv q.bad.length), (25, iv k)]) _
 refine Zb ?_
 by_cases hs7 : ((k : Nat) : Int) < ((q.bad.length : Nat) : Int)
 refine Za (oC (ZT rfl (dT hs7)) I0 I0 (kN 47 [(1, .box 27 (cFm p)), (2, .box 30 (cPq q))] [(2, .box 1 0), (3, .box 2 0), (23, slA 2 cRw q.bad), (24, iv q.bad.length), (25, iv k), (26, bv true)] (Zc (Zb (Zu rfl (Zk (Zc (Zb (Zz (Zb (Za ?_)))))))))))
 refine oC (Zo (off := k * 2) (.tmp 23) (.tmp 25) rfl U28 (by kernel_rfl) (by omega) (by omega) rfl) I0 I0 (oA (Y6 (z := 2) (.tmp 27) rfl U53 rfl (by kernel_rfl) (Kq lenRw q.bad k (by omega)) rfl) I0 (Yl rfl (sp_alloc (z := .agg #[.slice none 0 0, .int .i64 0]) (k := 3) rfl (by kernel_rfl)) T0 T0 rfl (Yl rfl (Kf (T0 := 53) (X := .agg (cRw q.bad[k])) (cs := [.v (.slice none 0 0), iv 0]) (ds := cRw q.bad[k]) (z := 2) (.tmp 6) (.tmp 28) rfl (by kernel_rfl) (by kernel_rfl) (by kernel_rfl) (of_decide_eq_true (by kernel_rfl)) (by kernel_rfl)) ⟨I0, I0, T0⟩ ⟨rfl, T0⟩ rfl (kN 47 [(1, .box 27 (cFm p)), (2, .box 30 (cPq q)), (3, .box 53 (cRw q.bad[k]))] [(2, .box 1 0), (3, .box 2 0), (6, .box 3 0), (23, slA 2 cRw q.bad), (24, iv q.bad.length), (25, iv k), (26, bv true)] (Zc (Zb (Zb (Za (oA (fb 0 6 U53 1) I0 (oB (lb (Ze q.bad[k].1) 29 U24) I0 rfl (oA (fb 2 2 U27 1) I0 ?_)))))))))))
 refine oB (lb (Yj p.states) 31 U22) I0 rfl (oA (Zi (.tmp 32) rfl U22) I0 (oD (Zm (c := .func 49) (xs := #[.tmp 30, .tmp 33]) [] (KP p.states.length HP.lstates q.bad[k].1 (HQ.bad q.bad[k] (List.getElem_mem (by omega))).1) rfl (by kernel_rfl) rfl (Xs := [Ze q.bad[k].1, iv p.states.length]) rfl rfl rfl) I0 I0 I0 (pM (aT 34 (iv (someE p.states.length q.bad[k].1))) (kN 47 [(1, .box 27 (cFm p)), (2, .box 30 (cPq q)), (3, .box 53 (cRw q.bad[k]))] [(2, .box 1 0), (3, .box 2 0), (6, .box 3 0), (7, iv (someE p.states.length q.bad[k].1)), (23, slA 2 cRw q.bad), (24, iv q.bad.length), (25, iv k), (26, bv true)] (Zc (Zb ?_))))))
 by_cases hs8 : someE p.states.length q.bad[k].1 = 0
 refine Za (pM (mT 7 (iv (someE p.states.length q.bad[k].1))) (oC (ZE rfl (dT' hs8)) I0 I0 (kN 47 [(1, .box 27 (cFm p)), (2, .box 30 (cPq q)), (3, .box 53 (cRw q.bad[k]))] [(2, .box 1 0), (3, .box 2 0), (6, .box 3 0), (7, iv (someE p.states.length q.bad[k].1)), (23, slA 2 cRw q.bad), (24, iv q.bad.length), (25, iv k), (26, bv true), (36, bv false)] (Zc (Zn rfl (Zk (Zc (Zb ?_))))))))
 by_cases hs9 : (inB 1 3 q.bad[k].2) = true
 refine Za (oA (fb 1 6 U53 1) I0 (oB (lb (iv q.bad[k].2) 38 U3) I0 rfl (Yl rfl (Zm (c := .func 42) (xs := #[.tmp 39, .const (.int .i64 1), .const (.int .i64 3)]) [] (ZJ (between_c q.bad[k].2 1 3) hs9) rfl (by kernel_rfl) rfl (Xs := [iv q.bad[k].2, iv 1, iv 3]) rfl rfl rfl) ⟨I0, I0, I0, I0, T0⟩ T0 T0 (oA (ZC rfl rfl) I0 (kN 47 [(1, .box 27 (cFm p)), (2, .box 30 (cPq q)), (3, .box 53 (cRw q.bad[k]))] [(2, .box 1 0), (3, .box 2 0), (6, .box 3 0), (7, iv (someE p.states.length q.bad[k].1)), (23, slA 2 cRw q.bad), (24, iv q.bad.length), (25, iv k), (26, bv true), (36, bv false), (41, bv false)] (Zc (Zn rfl (Zk (ZU (Zc (Za ?_)))))))))))
 refine oC (ZV (c := ((k + 1 : Nat) : Int)) rfl (w64 (by omega) (by omega) (by omega))) I0 I0 (pM (mT 42 (iv (k + 1 : Nat))) (kN 47 [(1, .box 27 (cFm p)), (2, .box 30 (cPq q)), (3, .box 53 (cRw q.bad[k]))] [(2, .box 1 0), (3, .box 2 0), (6, .box 3 0), (7, iv (someE p.states.length q.bad[k].1)), (23, slA 2 cRw q.bad), (24, iv q.bad.length), (25, iv (k + 1 : Nat)), (26, bv true), (36, bv false), (41, bv false)] (Zc ?_)))
 refine ZH ⟨k + 1, by omega, cntOk_succ (by omega) hs0 (cnt_0 (some_z hs8).1 (some_z hs8).2 hs9)⟩ (show q.bad.length - (k + 1) < q.bad.length - k by omega) ?_
 exact Zw _ _ rfl (by kernel_rfl) (by kernel_rfl)
 have hs9f : (inB 1 3 q.bad[k].2) = false := by simpa using hs9
 refine Za (oA (fb 1 6 U53 1) I0 (oB (lb (iv q.bad[k].2) 38 U3) I0 rfl (Yl rfl (Zm (c := .func 42) (xs := #[.tmp 39, .const (.int .i64 1), .const (.int .i64 3)]) [] (ZJ (between_c q.bad[k].2 1 3) hs9f) rfl (by kernel_rfl) rfl (Xs := [iv q.bad[k].2, iv 1, iv 3]) rfl rfl rfl) ⟨I0, I0, I0, I0, T0⟩ T0 T0 (oA (ZC rfl rfl) I0 (kN 47 [(1, .box 27 (cFm p)), (2, .box 30 (cPq q)), (3, .box 53 (cRw q.bad[k]))] [(2, .box 1 0), (3, .box 2 0), (6, .box 3 0), (7, iv (someE p.states.length q.bad[k].1)), (23, slA 2 cRw q.bad), (24, iv q.bad.length), (25, iv k), (26, bv true), (36, bv false), (41, bv true)] (Zc (Zu rfl (Zb (Za (pM (aC (.int .i64 1)) (Zv ?_)))))))))))
 refine Zc (Zt (Zq (Zd (Zd (Zq (Yi (Zd ?_)))))))
 refine Zr Try.results84 (.tmp rfl) ?_
 exact congrArg (fun x : Int => AV.v (.int .i64 x)) ((bad_c ⟨(fun h => hs1 h.1), hs6⟩ (k := k) (by omega) hs0 (cnt_b (some_z hs8).1 (some_z hs8).2 hs9f) (by decide)).symm)
 refine Za (pM (mT 7 (iv (someE p.states.length q.bad[k].1))) (oC (ZE rfl (dF' hs8)) I0 I0 (kN 47 [(1, .box 27 (cFm p)), (2, .box 30 (cPq q)), (3, .box 53 (cRw q.bad[k]))] [(2, .box 1 0), (3, .box 2 0), (6, .box 3 0), (7, iv (someE p.states.length q.bad[k].1)), (23, slA 2 cRw q.bad), (24, iv q.bad.length), (25, iv k), (26, bv true), (36, bv true)] (Zc (Zu rfl (Zb (Za (pM (mT 7 (iv (someE p.states.length q.bad[k].1))) (pM (aT 37 (iv (someE p.states.length q.bad[k].1))) (Zv (Zc ?_)))))))))))
 refine Zt (Zd (Zq (Zd (Zd (Zq (Yi (Zd ?_)))))))
 refine Zr Try.results84 (.tmp rfl) ?_
 exact congrArg (fun x : Int => AV.v (.int .i64 x)) ((bad_c ⟨(fun h => hs1 h.1), hs6⟩ (k := k) (by omega) hs0 (some_ne hs8) hs8).symm)
 refine Za (oC (ZT rfl (dF hs7)) I0 I0 (kN 47 [(1, .box 27 (cFm p)), (2, .box 30 (cPq q))] [(2, .box 1 0), (3, .box 2 0), (23, slA 2 cRw q.bad), (24, iv q.bad.length), (25, iv k), (26, bv false)] (Zc (Zb (Zn rfl (Z8 (Zx (Zx (YN ?_)))))))))
 exact Z7 (by have : k = q.bad.length := (by omega); subst this; exact hs0) (Zw _ _ rfl (by kernel_rfl) (by kernel_rfl))
 refine Zc (Zb (Za (oB (Zj (Y := .box 27 (cFm p)) (ds := cFm p) (z := 10) (.tmp 2) rfl U27 rfl (by kernel_rfl) (by decide) (by kernel_rfl) (by kernel_rfl)) I0 rfl (oA (fb 4 3 U30 1) I0 (oB (lb (Ze q.adj) 44 U24) I0 rfl (oD (Zm (c := .func 115) (xs := #[.tmp 43, .tmp 45]) [] (adjacent_c HP q.adj) rfl (by kernel_rfl) rfl (Xs := [.agg (cFm p), Ze q.adj]) rfl rfl rfl) I0 I0 I0 (pM (aT 46 (iv (adjE p q.adj))) (Zv (Zc (Zt ?_))))))))))
 refine Zr Try.results84 (.tmp rfl) ?_
 exact congrArg (fun x : Int => AV.v (.int .i64 x)) ((bad_z ⟨(fun h => hs1 h.1), hs6⟩ CNT).symm)
theorem qValidateProperty_c {p : Fm} (HP : FmOk p) {q : Pq} (HQ : PqOk q) : Ctr Try.prog J 55 [.agg (cFm p), .agg (cPq q)] (iv (vpE p q)) := by
 have l1 := HQ.lstart
 refine ZI Try.func55 rfl (by intro X hX; simp only [List.mem_cons, List.not_mem_nil, or_false] at hX; rcases hX with rfl | rfl; exact ZD (Yo p); exact ZD (Yr q)) (n := 88) rfl (by simp) (fun w0 => ?_)
 refine kW 88 [] [(0, .agg (cFm p)), (1, .agg (cPq q))] (Zb (Za (Yl rfl (Ya (X := .agg (cFm p)) (k := 1) (.tmp 0) rfl rfl) ⟨I0, T0⟩ T0 rfl (Yl rfl (Ya (X := .agg (cPq q)) (k := 2) (.tmp 1) rfl rfl) ⟨I0, T0⟩ T0 rfl (pM (aC (.int .i64 0)) (kN 88 [(1, .box 27 (cFm p)), (2, .box 30 (cPq q))] [(2, .box 1 0), (3, .box 2 0), (4, iv 0)] (Zc (Zb (Zb (Za (oB (Zj (Y := .box 27 (cFm p)) (ds := cFm p) (z := 10) (.tmp 2) rfl U27 rfl (by kernel_rfl) (by decide) (by kernel_rfl) (by kernel_rfl)) I0 rfl ?_)))))))))))
 refine oC (Zm (c := .func 21) (xs := #[.tmp 9]) [] (qValidate_c HP) rfl (by kernel_rfl) rfl (Xs := [.agg (cFm p)]) rfl rfl rfl) I0 I0 (pM (aT 10 (iv (valE p))) (kN 88 [(1, .box 27 (cFm p)), (2, .box 30 (cPq q))] [(2, .box 1 0), (3, .box 2 0), (4, iv 0), (5, iv (valE p))] (Zc (Zb ?_))))
 by_cases hs1 : valE p = 0
 refine Za (pM (mT 5 (iv (valE p))) (oC (ZE rfl (dT' hs1)) I0 I0 (kN 88 [(1, .box 27 (cFm p)), (2, .box 30 (cPq q))] [(2, .box 1 0), (3, .box 2 0), (4, iv 0), (5, iv (valE p)), (12, bv false)] (Zc (Zn rfl (Zk (Zc (Zb (Zz (Zb ?_))))))))))
 by_cases hs2 : (nameB q.nm.toList) = true
 refine Za (oA (fb 0 3 U30 1) I0 (oB (lb (sv q.nm) 15 U9) I0 rfl (oC (Zm (c := .func 41) (xs := #[.tmp 16]) [] (ZJ (qValidName_c q.nm HQ.nm) hs2) rfl (by kernel_rfl) rfl (Xs := [sv q.nm]) rfl rfl rfl) I0 I0 (oA (ZC rfl rfl) I0 (pM (aT 18 (bv false)) (kN 88 [(1, .box 27 (cFm p)), (2, .box 30 (cPq q))] [(2, .box 1 0), (3, .box 2 0), (4, iv 0), (14, bv false)] (Zc (Zn rfl (Zb ?_)))))))))
 by_cases hs3 : q.kind = 1
 refine Za (oA (fb 1 3 U30 1) I0 (oB (lb (iv q.kind) 20 U3) I0 rfl (oC (ZE rfl (dT' hs3)) I0 I0 (pM (mT 22 (bv false)) (qK (qK (qK (pP (Zf (.tmp 23) (.tmp 26) (.const (.bool false)) false (.v (.tuple #[])) (bv false) rfl) (pM (aT 27 (bv false)) (kN 88 [(1, .box 27 (cFm p)), (2, .box 30 (cPq q))] [(2, .box 1 0), (3, .box 2 0), (4, iv 0), (19, bv false)] (Zc ?_)))))))))))
 refine Zn rfl (Zb ?_)
 by_cases hs4 : 0 < ((q.goal.length : Nat) : Int)
 refine Za (oA (fb 1 3 U30 1) I0 (oB (lb (iv q.kind) 29 U3) I0 rfl (oC (ZA rfl (dT hs3)) I0 I0 (pM (mT 31 (bv true)) (gA (fb 5 3 U30 1) I0 (gB (lb (Ze q.goal) 33 U24) I0 rfl (gA (Zi (.tmp 34) rfl U24) I0 (gC (Z9 rfl (dT hs4)) I0 I0 (pP (Zf (.tmp 32) (.tmp 36) (.const (.bool false)) true (bv true) (bv false) rfl) (pM (aT 37 (bv true)) (kN 88 [(1, .box 27 (cFm p)), (2, .box 30 (cPq q))] [(2, .box 1 0), (3, .box 2 0), (4, iv 0), (28, bv true)] ?_)))))))))))
 refine Zc (Zu rfl (Zb (Za (pM (aC (.int .i64 1)) (Zv (Zc (Zt (Zq (Zd ?_)))))))))
 refine Zr Try.results55 (.tmp rfl) ?_
 exact congrArg (fun x : Int => AV.v (.int .i64 x)) (((vp_2 hs1 hs2).trans (v2_g hs3 hs4)).symm)
 refine Za (oA (fb 1 3 U30 1) I0 (oB (lb (iv q.kind) 29 U3) I0 rfl (oC (ZA rfl (dT hs3)) I0 I0 (pM (mT 31 (bv true)) (gA (fb 5 3 U30 1) I0 (gB (lb (Ze q.goal) 33 U24) I0 rfl (gA (Zi (.tmp 34) rfl U24) I0 (gC (Z9 rfl (dF hs4)) I0 I0 (pP (Zf (.tmp 32) (.tmp 36) (.const (.bool false)) true (bv false) (bv false) rfl) (pM (aT 37 (bv false)) (kN 88 [(1, .box 27 (cFm p)), (2, .box 30 (cPq q))] [(2, .box 1 0), (3, .box 2 0), (4, iv 0), (28, bv false)] ?_)))))))))))
 refine Zc (Zn rfl (Zb (Za (oA (fb 1 3 U30 1) I0 (oB (lb (iv q.kind) 39 U3) I0 rfl (oC (ZA rfl (dF (show ¬ q.kind = 2 by omega))) I0 I0 (pM (mT 41 (bv false)) (qK (qK (qK (qK ?_)))))))))))
 refine qK (qK (qK (qK (qK (qK (pP (Zf (.tmp 42) (.tmp 52) (.const (.bool false)) false (.v (.tuple #[])) (bv false) rfl) (pM (aT 53 (bv false)) (kN 88 [(1, .box 27 (cFm p)), (2, .box 30 (cPq q))] [(2, .box 1 0), (3, .box 2 0), (4, iv 0), (38, bv false)] (Zc (Zn rfl (Zk ?_)))))))))))
 refine ZU (Zc (Zb (Zb (Za (oA (fb 2 3 U30 1) I0 (oB (lb (Ze q.start) 54 U24) I0 rfl (oA (fb 2 2 U27 1) I0 (oB (lb (Yj p.states) 56 U22) I0 rfl (oA (Zi (.tmp 57) rfl U22) I0 (oD (Zm (c := .func 50) (xs := #[.tmp 55, .tmp 58]) [] (setError_c p.states.length HP.lstates q.start HQ.start) rfl (by kernel_rfl) rfl (Xs := [Ze q.start, iv p.states.length]) rfl rfl rfl) I0 I0 I0 (pM (aT 59 (iv (setE p.states.length q.start))) ?_)))))))))))
 refine kN 88 [(1, .box 27 (cFm p)), (2, .box 30 (cPq q))] [(2, .box 1 0), (3, .box 2 0), (4, iv 0), (6, iv (setE p.states.length q.start))] (Zc (Zb ?_))
 by_cases hs5 : setE p.states.length q.start = 0
 refine Za (pM (mT 6 (iv (setE p.states.length q.start))) (oC (ZE rfl (dT' hs5)) I0 I0 (kN 88 [(1, .box 27 (cFm p)), (2, .box 30 (cPq q))] [(2, .box 1 0), (3, .box 2 0), (4, iv 0), (6, iv (setE p.states.length q.start)), (61, bv false)] (Zc (Zn rfl (Zk (Zc (Zb (Zb (Za (oA (fb 2 3 U30 1) I0 ?_)))))))))))
 refine oB (lb (Ze q.start) 63 U24) I0 rfl (oA (Zi (.tmp 64) rfl U24) I0 (pM (Y5 (.const (.int .i64 0)) (iv 0) rfl) (kN 88 [(1, .box 27 (cFm p)), (2, .box 30 (cPq q))] [(2, .box 1 0), (3, .box 2 0), (4, iv 0), (64, Ze q.start), (65, iv q.start.length), (66, iv 0)] (Zc ?_))))
 refine Ku (subB p.init q.start q.start.length = true) (ofL [(1, .box 27 (cFm p)), (2, .box 30 (cPq q))]) (ofT 88 [(2, .box 1 0), (3, .box 2 0)]) ?_ (fun SUB => ?_)
 refine Zz ?_
 refine Yb (σ := {k : Nat // k ≤ q.start.length ∧ subB p.init q.start k = true}) (fun s => (ofL [(1, .box 27 (cFm p)), (2, .box 30 (cPq q))], ofT 88 [(2, .box 1 0), (3, .box 2 0), (64, Ze q.start), (65, iv q.start.length), (66, iv s.1)])) (fun s => q.start.length - s.1) ⟨0, Nat.zero_le _, rfl⟩ (Zw _ _ rfl (by kernel_rfl) (by kernel_rfl)) (fun s => ?_)
 obtain ⟨k, hk0, hs0⟩ := s
 show ETri J w0 (ofL [(1, .box 27 (cFm p)), (2, .box 30 (cPq q))]) (ofT 88 [(2, .box 1 0), (3, .box 2 0), (64, Ze q.start), (65, iv q.start.length), (66, iv k)]) _
 refine Zb ?_
 by_cases hs6 : ((k : Nat) : Int) < ((q.start.length : Nat) : Int)
 refine Za (oC (ZT rfl (dT hs6)) I0 I0 (kN 88 [(1, .box 27 (cFm p)), (2, .box 30 (cPq q))] [(2, .box 1 0), (3, .box 2 0), (64, Ze q.start), (65, iv q.start.length), (66, iv k), (67, bv true)] (Zc (Zb (Zu rfl (Zk (Zc (Zb (Zz (Zb (Za ?_)))))))))))
 refine oC (Zo (off := k * 1) (.tmp 64) (.tmp 66) rfl U24 (by kernel_rfl) (by omega) (by omega) rfl) I0 I0 (oA (Zp (X := iv q.start[k]) (.tmp 68) rfl U3 rfl (ZN q.start (by omega))) I0 (pM (aT 69 (iv q.start[k])) (kN 88 [(1, .box 27 (cFm p)), (2, .box 30 (cPq q))] [(2, .box 1 0), (3, .box 2 0), (8, iv q.start[k]), (64, Ze q.start), (65, iv q.start.length), (66, iv k), (67, bv true)] (Zc (Zb ?_)))))
 by_cases hs7 : (decide (q.start[k] ∈ p.init)) = true
 refine Za (oA (fb 7 2 U27 1) I0 (oB (lb (Ze p.init) 70 U24) I0 rfl (pM (mT 8 (iv q.start[k])) (oD (Zm (c := .func 56) (xs := #[.tmp 71, .tmp 72]) [] (ZJ (Y0 p.init q.start[k] HP.linit) hs7) rfl (by kernel_rfl) rfl (Xs := [Ze p.init, iv q.start[k]]) rfl rfl rfl) I0 I0 I0 (oA (ZC rfl rfl) I0 (kN 88 [(1, .box 27 (cFm p)), (2, .box 30 (cPq q))] [(2, .box 1 0), (3, .box 2 0), (8, iv q.start[k]), (64, Ze q.start), (65, iv q.start.length), (66, iv k), (67, bv true), (74, bv false)] (Zc (Zn rfl (Zk (ZU (Zc ?_)))))))))))
 refine Za (oC (ZV (c := ((k + 1 : Nat) : Int)) rfl (w64 (by omega) (by omega) (by omega))) I0 I0 (pM (mT 75 (iv (k + 1 : Nat))) (kN 88 [(1, .box 27 (cFm p)), (2, .box 30 (cPq q))] [(2, .box 1 0), (3, .box 2 0), (8, iv q.start[k]), (64, Ze q.start), (65, iv q.start.length), (66, iv (k + 1 : Nat)), (67, bv true), (74, bv false)] (Zc ?_))))
 refine ZH ⟨k + 1, by omega, subB_succ (by omega) hs0 hs7⟩ (show q.start.length - (k + 1) < q.start.length - k by omega) ?_
 exact Zw _ _ rfl (by kernel_rfl) (by kernel_rfl)
 have hs7f : (decide (q.start[k] ∈ p.init)) = false := by simpa using hs7
 refine Za (oA (fb 7 2 U27 1) I0 (oB (lb (Ze p.init) 70 U24) I0 rfl (pM (mT 8 (iv q.start[k])) (oD (Zm (c := .func 56) (xs := #[.tmp 71, .tmp 72]) [] (ZJ (Y0 p.init q.start[k] HP.linit) hs7f) rfl (by kernel_rfl) rfl (Xs := [Ze p.init, iv q.start[k]]) rfl rfl rfl) I0 I0 I0 (oA (ZC rfl rfl) I0 (kN 88 [(1, .box 27 (cFm p)), (2, .box 30 (cPq q))] [(2, .box 1 0), (3, .box 2 0), (8, iv q.start[k]), (64, Ze q.start), (65, iv q.start.length), (66, iv k), (67, bv true), (74, bv true)] (Zc (Zu rfl (Zb (Za (pM (aC (.int .i64 5)) ?_)))))))))))
 refine Zv (Zc (Zt (Zq (Zd (Zd (Zq (Yi (Zd ?_))))))))
 refine Zr Try.results55 (.tmp rfl) ?_
 exact congrArg (fun x : Int => AV.v (.int .i64 x)) (((vp_2 hs1 hs2).trans ((v2_1 hs3 hs4).trans (v3_i hs5 (k := k) (by omega) hs7f))).symm)
 refine Za (oC (ZT rfl (dF hs6)) I0 I0 (kN 88 [(1, .box 27 (cFm p)), (2, .box 30 (cPq q))] [(2, .box 1 0), (3, .box 2 0), (64, Ze q.start), (65, iv q.start.length), (66, iv k), (67, bv false)] (Zc (Zb (Zn rfl (Z8 (Zx (Zx (YN ?_)))))))))
 exact Z7 (by have : k = q.start.length := (by omega); subst this; exact hs0) (Zw _ _ rfl (by kernel_rfl) (by kernel_rfl))
 refine Zc (Zb (Zb (Za (oA (fb 1 3 U30 1) I0 (oB (lb (iv q.kind) 76 U3) I0 rfl (oC (ZA rfl (dF (show ¬ q.kind = 2 by omega))) I0 I0 (kN 88 [(1, .box 27 (cFm p)), (2, .box 30 (cPq q))] [(2, .box 1 0), (3, .box 2 0), (78, bv false)] (Zc (Zn rfl (Zk (Zc ?_)))))))))))
 refine Zb (Za (oB (Zj (Y := .box 27 (cFm p)) (ds := cFm p) (z := 10) (.tmp 2) rfl U27 rfl (by kernel_rfl) (by decide) (by kernel_rfl) (by kernel_rfl)) I0 rfl (oB (Zj (Y := .box 30 (cPq q)) (ds := cPq q) (z := 6) (.tmp 3) rfl U30 rfl (by kernel_rfl) (by decide) (by kernel_rfl) (by kernel_rfl)) I0 rfl (oD (Zm (c := .func 84) (xs := #[.tmp 85, .tmp 86]) [] (badError_c HP HQ) rfl (by kernel_rfl) rfl (Xs := [.agg (cFm p), .agg (cPq q)]) rfl rfl rfl) I0 I0 I0 (pM (aT 87 (iv (badE p q))) (Zv (Zc (Zt ?_))))))))
 refine Zr Try.results55 (.tmp rfl) ?_
 exact congrArg (fun x : Int => AV.v (.int .i64 x)) (((vp_2 hs1 hs2).trans ((v2_1 hs3 hs4).trans (v3_z hs5 SUB))).symm)
 refine Za (pM (mT 6 (iv (setE p.states.length q.start))) (oC (ZE rfl (dF' hs5)) I0 I0 (kN 88 [(1, .box 27 (cFm p)), (2, .box 30 (cPq q))] [(2, .box 1 0), (3, .box 2 0), (4, iv 0), (6, iv (setE p.states.length q.start)), (61, bv true)] (Zc (Zu rfl (Zb (Za (pM (mT 6 (iv (setE p.states.length q.start))) (pM (aT 62 (iv (setE p.states.length q.start))) (Zv (Zc ?_)))))))))))
 refine Zt (Zd ?_)
 refine Zr Try.results55 (.tmp rfl) ?_
 exact congrArg (fun x : Int => AV.v (.int .i64 x)) (((vp_2 hs1 hs2).trans ((v2_1 hs3 hs4).trans (v3_s hs5))).symm)
 by_cases hs8 : q.kind = 2
 refine Za (oA (fb 1 3 U30 1) I0 (oB (lb (iv q.kind) 20 U3) I0 rfl (oC (ZE rfl (dF' hs3)) I0 I0 (pM (mT 22 (bv true)) (gA (fb 1 3 U30 1) I0 (gB (lb (iv q.kind) 24 U3) I0 rfl (gC (ZE rfl (dT' hs8)) I0 I0 (pP (Zf (.tmp 23) (.tmp 26) (.const (.bool false)) true (bv false) (bv false) rfl) (pM (aT 27 (bv false)) (kN 88 [(1, .box 27 (cFm p)), (2, .box 30 (cPq q))] [(2, .box 1 0), (3, .box 2 0), (4, iv 0), (19, bv false)] (Zc ?_)))))))))))
 refine Zn rfl (Zb (Za (oA (fb 1 3 U30 1) I0 (oB (lb (iv q.kind) 29 U3) I0 rfl (oC (ZA rfl (dF hs3)) I0 I0 (pM (mT 31 (bv false)) (qK (qK (qK (qK (pP (Zf (.tmp 32) (.tmp 36) (.const (.bool false)) false (.v (.tuple #[])) (bv false) rfl) ?_)))))))))))
 refine pM (aT 37 (bv false)) (kN 88 [(1, .box 27 (cFm p)), (2, .box 30 (cPq q))] [(2, .box 1 0), (3, .box 2 0), (4, iv 0), (28, bv false)] (Zc (Zn rfl (Zb ?_))))
 by_cases hs9 : 0 < ((q.bad.length : Nat) : Int)
 refine Za (oA (fb 1 3 U30 1) I0 (oB (lb (iv q.kind) 39 U3) I0 rfl (oC (ZA rfl (dT hs8)) I0 I0 (pM (mT 41 (bv true)) (gA (fb 3 3 U30 1) I0 (gB (lb (slA 2 cRw q.bad) 43 U28) I0 rfl (gA (Zi (.tmp 44) rfl U28) I0 (gC (Z9 rfl (dT hs9)) I0 I0 (qM (mT 46 (bv true)) (qK (qK ?_)))))))))))
 refine qK (qK (qP (Zf (.tmp 47) (.const (.bool true)) (.tmp 51) true (bv true) (.v (.tuple #[])) rfl) (pP (Zf (.tmp 42) (.tmp 52) (.const (.bool false)) true (bv true) (bv false) rfl) (pM (aT 53 (bv true)) (kN 88 [(1, .box 27 (cFm p)), (2, .box 30 (cPq q))] [(2, .box 1 0), (3, .box 2 0), (4, iv 0), (38, bv true)] (Zc (Zu rfl (Zb (Za (pM (aC (.int .i64 1)) (Zv ?_)))))))))))
 refine Zc (Zt (Zq (Zd ?_)))
 refine Zr Try.results55 (.tmp rfl) ?_
 exact congrArg (fun x : Int => AV.v (.int .i64 x)) (((vp_2 hs1 hs2).trans (v2_b hs3 hs8 hs9)).symm)
 by_cases hs10 : 0 < ((q.adj.length : Nat) : Int)
 refine Za (oA (fb 1 3 U30 1) I0 (oB (lb (iv q.kind) 39 U3) I0 rfl (oC (ZA rfl (dT hs8)) I0 I0 (pM (mT 41 (bv true)) (gA (fb 3 3 U30 1) I0 (gB (lb (slA 2 cRw q.bad) 43 U28) I0 rfl (gA (Zi (.tmp 44) rfl U28) I0 (gC (Z9 rfl (dF hs9)) I0 I0 (qM (mT 46 (bv false)) (gA (fb 4 3 U30 1) I0 (gB (lb (Ze q.adj) 48 U24) I0 rfl ?_)))))))))))
 refine gA (Zi (.tmp 49) rfl U24) I0 (gC (Z9 rfl (dT hs10)) I0 I0 (qP (Zf (.tmp 47) (.const (.bool true)) (.tmp 51) false (bv true) (bv true) rfl) (pP (Zf (.tmp 42) (.tmp 52) (.const (.bool false)) true (bv true) (bv false) rfl) (pM (aT 53 (bv true)) (kN 88 [(1, .box 27 (cFm p)), (2, .box 30 (cPq q))] [(2, .box 1 0), (3, .box 2 0), (4, iv 0), (38, bv true)] (Zc (Zu rfl (Zb (Za (pM (aC (.int .i64 1)) (Zv ?_)))))))))))
 refine Zc (Zt (Zq (Zd ?_)))
 refine Zr Try.results55 (.tmp rfl) ?_
 exact congrArg (fun x : Int => AV.v (.int .i64 x)) (((vp_2 hs1 hs2).trans (v2_a hs3 hs8 hs9 hs10)).symm)
 refine Za (oA (fb 1 3 U30 1) I0 (oB (lb (iv q.kind) 39 U3) I0 rfl (oC (ZA rfl (dT hs8)) I0 I0 (pM (mT 41 (bv true)) (gA (fb 3 3 U30 1) I0 (gB (lb (slA 2 cRw q.bad) 43 U28) I0 rfl (gA (Zi (.tmp 44) rfl U28) I0 (gC (Z9 rfl (dF hs9)) I0 I0 (qM (mT 46 (bv false)) (gA (fb 4 3 U30 1) I0 (gB (lb (Ze q.adj) 48 U24) I0 rfl ?_)))))))))))
 refine gA (Zi (.tmp 49) rfl U24) I0 (gC (Z9 rfl (dF hs10)) I0 I0 (qP (Zf (.tmp 47) (.const (.bool true)) (.tmp 51) false (bv true) (bv false) rfl) (pP (Zf (.tmp 42) (.tmp 52) (.const (.bool false)) true (bv false) (bv false) rfl) (pM (aT 53 (bv false)) (kN 88 [(1, .box 27 (cFm p)), (2, .box 30 (cPq q))] [(2, .box 1 0), (3, .box 2 0), (4, iv 0), (38, bv false)] (Zc (Zn rfl (Zk (ZU (Zc (Zb ?_)))))))))))
 refine Zb (Za (oA (fb 2 3 U30 1) I0 (oB (lb (Ze q.start) 54 U24) I0 rfl (oA (fb 2 2 U27 1) I0 (oB (lb (Yj p.states) 56 U22) I0 rfl (oA (Zi (.tmp 57) rfl U22) I0 (oD (Zm (c := .func 50) (xs := #[.tmp 55, .tmp 58]) [] (setError_c p.states.length HP.lstates q.start HQ.start) rfl (by kernel_rfl) rfl (Xs := [Ze q.start, iv p.states.length]) rfl rfl rfl) I0 I0 I0 (pM (aT 59 (iv (setE p.states.length q.start))) (kN 88 [(1, .box 27 (cFm p)), (2, .box 30 (cPq q))] [(2, .box 1 0), (3, .box 2 0), (4, iv 0), (6, iv (setE p.states.length q.start))] (Zc (Zb ?_)))))))))))
 by_cases hs11 : setE p.states.length q.start = 0
 refine Za (pM (mT 6 (iv (setE p.states.length q.start))) (oC (ZE rfl (dT' hs11)) I0 I0 (kN 88 [(1, .box 27 (cFm p)), (2, .box 30 (cPq q))] [(2, .box 1 0), (3, .box 2 0), (4, iv 0), (6, iv (setE p.states.length q.start)), (61, bv false)] (Zc (Zn rfl (Zk (Zc (Zb (Zb (Za (oA (fb 2 3 U30 1) I0 ?_)))))))))))
 refine oB (lb (Ze q.start) 63 U24) I0 rfl (oA (Zi (.tmp 64) rfl U24) I0 (pM (Y5 (.const (.int .i64 0)) (iv 0) rfl) (kN 88 [(1, .box 27 (cFm p)), (2, .box 30 (cPq q))] [(2, .box 1 0), (3, .box 2 0), (4, iv 0), (64, Ze q.start), (65, iv q.start.length), (66, iv 0)] (Zc ?_))))
 refine Ku (subB p.init q.start q.start.length = true) (ofL [(1, .box 27 (cFm p)), (2, .box 30 (cPq q))]) (ofT 88 [(2, .box 1 0), (3, .box 2 0)]) ?_ (fun SUB => ?_)
 refine Zz ?_
 refine Yb (σ := {k : Nat // k ≤ q.start.length ∧ subB p.init q.start k = true}) (fun s => (ofL [(1, .box 27 (cFm p)), (2, .box 30 (cPq q))], ofT 88 [(2, .box 1 0), (3, .box 2 0), (64, Ze q.start), (65, iv q.start.length), (66, iv s.1)])) (fun s => q.start.length - s.1) ⟨0, Nat.zero_le _, rfl⟩ (Zw _ _ rfl (by kernel_rfl) (by kernel_rfl)) (fun s => ?_)
 obtain ⟨k, hk0, hs0⟩ := s
 show ETri J w0 (ofL [(1, .box 27 (cFm p)), (2, .box 30 (cPq q))]) (ofT 88 [(2, .box 1 0), (3, .box 2 0), (64, Ze q.start), (65, iv q.start.length), (66, iv k)]) _
 refine Zb ?_
 by_cases hs12 : ((k : Nat) : Int) < ((q.start.length : Nat) : Int)
 refine Za (oC (ZT rfl (dT hs12)) I0 I0 (kN 88 [(1, .box 27 (cFm p)), (2, .box 30 (cPq q))] [(2, .box 1 0), (3, .box 2 0), (64, Ze q.start), (65, iv q.start.length), (66, iv k), (67, bv true)] (Zc (Zb (Zu rfl (Zk (Zc (Zb (Zz (Zb (Za ?_)))))))))))
 refine oC (Zo (off := k * 1) (.tmp 64) (.tmp 66) rfl U24 (by kernel_rfl) (by omega) (by omega) rfl) I0 I0 (oA (Zp (X := iv q.start[k]) (.tmp 68) rfl U3 rfl (ZN q.start (by omega))) I0 (pM (aT 69 (iv q.start[k])) (kN 88 [(1, .box 27 (cFm p)), (2, .box 30 (cPq q))] [(2, .box 1 0), (3, .box 2 0), (8, iv q.start[k]), (64, Ze q.start), (65, iv q.start.length), (66, iv k), (67, bv true)] (Zc (Zb ?_)))))
 by_cases hs13 : (decide (q.start[k] ∈ p.init)) = true
 refine Za (oA (fb 7 2 U27 1) I0 (oB (lb (Ze p.init) 70 U24) I0 rfl (pM (mT 8 (iv q.start[k])) (oD (Zm (c := .func 56) (xs := #[.tmp 71, .tmp 72]) [] (ZJ (Y0 p.init q.start[k] HP.linit) hs13) rfl (by kernel_rfl) rfl (Xs := [Ze p.init, iv q.start[k]]) rfl rfl rfl) I0 I0 I0 (oA (ZC rfl rfl) I0 (kN 88 [(1, .box 27 (cFm p)), (2, .box 30 (cPq q))] [(2, .box 1 0), (3, .box 2 0), (8, iv q.start[k]), (64, Ze q.start), (65, iv q.start.length), (66, iv k), (67, bv true), (74, bv false)] (Zc (Zn rfl (Zk (ZU (Zc ?_)))))))))))
 refine Za (oC (ZV (c := ((k + 1 : Nat) : Int)) rfl (w64 (by omega) (by omega) (by omega))) I0 I0 (pM (mT 75 (iv (k + 1 : Nat))) (kN 88 [(1, .box 27 (cFm p)), (2, .box 30 (cPq q))] [(2, .box 1 0), (3, .box 2 0), (8, iv q.start[k]), (64, Ze q.start), (65, iv q.start.length), (66, iv (k + 1 : Nat)), (67, bv true), (74, bv false)] (Zc ?_))))
 refine ZH ⟨k + 1, by omega, subB_succ (by omega) hs0 hs13⟩ (show q.start.length - (k + 1) < q.start.length - k by omega) ?_
 exact Zw _ _ rfl (by kernel_rfl) (by kernel_rfl)
 have hs13f : (decide (q.start[k] ∈ p.init)) = false := by simpa using hs13
 refine Za (oA (fb 7 2 U27 1) I0 (oB (lb (Ze p.init) 70 U24) I0 rfl (pM (mT 8 (iv q.start[k])) (oD (Zm (c := .func 56) (xs := #[.tmp 71, .tmp 72]) [] (ZJ (Y0 p.init q.start[k] HP.linit) hs13f) rfl (by kernel_rfl) rfl (Xs := [Ze p.init, iv q.start[k]]) rfl rfl rfl) I0 I0 I0 (oA (ZC rfl rfl) I0 (kN 88 [(1, .box 27 (cFm p)), (2, .box 30 (cPq q))] [(2, .box 1 0), (3, .box 2 0), (8, iv q.start[k]), (64, Ze q.start), (65, iv q.start.length), (66, iv k), (67, bv true), (74, bv true)] (Zc (Zu rfl (Zb (Za (pM (aC (.int .i64 5)) ?_)))))))))))
 refine Zv (Zc (Zt (Zq (Zd (Zd (Zq (Yi (Zd ?_))))))))
 refine Zr Try.results55 (.tmp rfl) ?_
 exact congrArg (fun x : Int => AV.v (.int .i64 x)) (((vp_2 hs1 hs2).trans ((v2_2 hs3 hs8 hs9 hs10).trans (v3_i hs11 (k := k) (by omega) hs13f))).symm)
 refine Za (oC (ZT rfl (dF hs12)) I0 I0 (kN 88 [(1, .box 27 (cFm p)), (2, .box 30 (cPq q))] [(2, .box 1 0), (3, .box 2 0), (64, Ze q.start), (65, iv q.start.length), (66, iv k), (67, bv false)] (Zc (Zb (Zn rfl (Z8 (Zx (Zx (YN ?_)))))))))
 exact Z7 (by have : k = q.start.length := (by omega); subst this; exact hs0) (Zw _ _ rfl (by kernel_rfl) (by kernel_rfl))
 refine Zc (Zb (Zb (Za (oA (fb 1 3 U30 1) I0 (oB (lb (iv q.kind) 76 U3) I0 rfl (oC (ZA rfl (dT hs8)) I0 I0 (kN 88 [(1, .box 27 (cFm p)), (2, .box 30 (cPq q))] [(2, .box 1 0), (3, .box 2 0), (78, bv true)] (Zc (Zu rfl (Zb (Za ?_)))))))))))
 refine oA (fb 5 3 U30 1) I0 (oB (lb (Ze q.goal) 79 U24) I0 rfl (oA (fb 2 2 U27 1) I0 (oB (lb (Yj p.states) 81 U22) I0 rfl (oA (Zi (.tmp 82) rfl U22) I0 (oD (Zm (c := .func 49) (xs := #[.tmp 80, .tmp 83]) [] (KP p.states.length HP.lstates q.goal HQ.goal) rfl (by kernel_rfl) rfl (Xs := [Ze q.goal, iv p.states.length]) rfl rfl rfl) I0 I0 I0 (pM (aT 84 (iv (someE p.states.length q.goal))) (Zv (Zc (Zt (Zd ?_))))))))))
 refine Zr Try.results55 (.tmp rfl) ?_
 exact congrArg (fun x : Int => AV.v (.int .i64 x)) (((vp_2 hs1 hs2).trans ((v2_2 hs3 hs8 hs9 hs10).trans (v3_z hs11 SUB))).symm)
 refine Za (pM (mT 6 (iv (setE p.states.length q.start))) (oC (ZE rfl (dF' hs11)) I0 I0 (kN 88 [(1, .box 27 (cFm p)), (2, .box 30 (cPq q))] [(2, .box 1 0), (3, .box 2 0), (4, iv 0), (6, iv (setE p.states.length q.start)), (61, bv true)] (Zc (Zu rfl (Zb (Za (pM (mT 6 (iv (setE p.states.length q.start))) (pM (aT 62 (iv (setE p.states.length q.start))) (Zv (Zc ?_)))))))))))
 refine Zt (Zd ?_)
 refine Zr Try.results55 (.tmp rfl) ?_
 exact congrArg (fun x : Int => AV.v (.int .i64 x)) (((vp_2 hs1 hs2).trans ((v2_2 hs3 hs8 hs9 hs10).trans (v3_s hs11))).symm)
 refine Za (oA (fb 1 3 U30 1) I0 (oB (lb (iv q.kind) 20 U3) I0 rfl (oC (ZE rfl (dF' hs3)) I0 I0 (pM (mT 22 (bv true)) (gA (fb 1 3 U30 1) I0 (gB (lb (iv q.kind) 24 U3) I0 rfl (gC (ZE rfl (dF' hs8)) I0 I0 (pP (Zf (.tmp 23) (.tmp 26) (.const (.bool false)) true (bv true) (bv false) rfl) (pM (aT 27 (bv true)) (kN 88 [(1, .box 27 (cFm p)), (2, .box 30 (cPq q))] [(2, .box 1 0), (3, .box 2 0), (4, iv 0), (19, bv true)] (Zc ?_)))))))))))
 refine Zu rfl (Zb (Za (pM (aC (.int .i64 1)) (Zv (Zc (Zt (Zq (Zd ?_))))))))
 refine Zr Try.results55 (.tmp rfl) ?_
 exact congrArg (fun x : Int => AV.v (.int .i64 x)) (((vp_2 hs1 hs2).trans (v2_k hs3 hs8)).symm)
 have hs2f : (nameB q.nm.toList) = false := by simpa using hs2
 refine Za (oA (fb 0 3 U30 1) I0 (oB (lb (sv q.nm) 15 U9) I0 rfl (oC (Zm (c := .func 41) (xs := #[.tmp 16]) [] (ZJ (qValidName_c q.nm HQ.nm) hs2f) rfl (by kernel_rfl) rfl (Xs := [sv q.nm]) rfl rfl rfl) I0 I0 (oA (ZC rfl rfl) I0 (pM (aT 18 (bv true)) (kN 88 [(1, .box 27 (cFm p)), (2, .box 30 (cPq q))] [(2, .box 1 0), (3, .box 2 0), (4, iv 0), (14, bv true)] (Zc (Zu rfl (Zb (Za (pM (aC (.int .i64 2)) ?_)))))))))))
 refine Zv (Zc (Zt (Zq (Zd ?_))))
 refine Zr Try.results55 (.tmp rfl) ?_
 exact congrArg (fun x : Int => AV.v (.int .i64 x)) ((vp_n hs1 hs2f).symm)
 refine Za (pM (mT 5 (iv (valE p))) (oC (ZE rfl (dF' hs1)) I0 I0 (kN 88 [(1, .box 27 (cFm p)), (2, .box 30 (cPq q))] [(2, .box 1 0), (3, .box 2 0), (4, iv 0), (5, iv (valE p)), (12, bv true)] (Zc (Zu rfl (Zb (Za (pM (mT 5 (iv (valE p))) (pM (aT 13 (iv (valE p))) (Zv (Zc ?_)))))))))))
 refine Zt (Zd ?_)
 refine Zr Try.results55 (.tmp rfl) ?_
 exact congrArg (fun x : Int => AV.v (.int .i64 x)) ((vp_v hs1).symm)
end Go.Proofs.Ytoefmdjgnabgfaa

namespace Go.Proofs.Ytoefmdjgnabgfaa
set_option maxRecDepth 100000
set_option maxHeartbeats 6400000
open Go.RowKit Go.Deep
variable {J : World → Prop}
theorem outB_c {x m : Int} : Ctr Try.prog J 81 [iv x, .el ([iv m]) 0] (bv (Rd.outB m x)) := by
 refine ZI Try.func81 rfl (by intro X hX; simp only [List.mem_cons, List.not_mem_nil, or_false] at hX; rcases hX with rfl | rfl; exact .v _; exact .el (YH (by intro X hX; rw [List.mem_singleton.1 hX]; exact .v _))) (n := 11) rfl (by simp) (fun w0 => ?_)
 refine kW 11 [] [(0, iv x), (1, .el ([iv m]) 0)] (Zb (Za (pM (aC (.bool false)) (kN 11 [] [(0, iv x), (1, .el ([iv m]) 0), (3, bv false)] (Zc (Zb ?_))))))
 by_cases hs1 : x < 0
 refine Za (pM (mT 0 (iv x)) (oC (ZT rfl (dT hs1)) I0 I0 (pM (mT 5 (bv true)) (qK (qK (qK (pP (Zf (.tmp 6) (.const (.bool true)) (.tmp 9) true (bv true) (.v (.tuple #[])) rfl) (pM (aT 10 (bv true)) (Zv (Zc (Zt ?_)))))))))))
 refine Zr Try.results81 (.tmp rfl) ?_
 exact congrArg (fun x : Bool => AV.v (.bool x)) ((Rd.outB_lo hs1).symm)
 refine Za (pM (mT 0 (iv x)) (oC (ZT rfl (dF hs1)) I0 I0 (pM (mT 5 (bv false)) (qM (mT 0 (iv x)) (gA (Zp (X := iv m) (.tmp 1) rfl U3 rfl rfl) I0 (gC (Y9 rfl rfl) I0 I0 (pP (Zf (.tmp 6) (.const (.bool true)) (.tmp 9) false (bv true) (bv (decide (m ≤ x))) rfl) (pM (aT 10 (bv (decide (m ≤ x)))) (Zv (Zc (Zt ?_)))))))))))
 refine Zr Try.results81 (.tmp rfl) ?_
 exact congrArg (fun x : Bool => AV.v (.bool x)) ((Rd.outB_hi hs1).symm)
theorem ixOut_c (xs : List Int) {m : Int} (lx : xs.length ≤ 9223372036854775807) : Ctr Try.prog J 87 [Ze xs, .clo 81 [.el ([iv m]) 0]] (iv (Rd.ixP xs (Rd.outB m))) := by
 refine ZI Try.func87 rfl (by intro X hX; simp only [List.mem_cons, List.not_mem_nil, or_false] at hX; rcases hX with rfl | rfl; exact Z5 _; exact .clo (fun j hj => match j, hj with | 0, _ => .el (YH (by intro X hX; rw [List.mem_singleton.1 hX]; exact .v _)))) (n := 19) rfl (by simp) (fun w0 => ?_)
 refine kW 19 [] [(0, Ze xs), (1, .clo 81 [.el ([iv m]) 0])] (Zb (Za (pM (aC (.int .i64 0)) (kN 19 [] [(0, Ze xs), (1, .clo 81 [.el ([iv m]) 0]), (4, iv 0)] (Zc (Zb (Zb (Za (pM (mT 0 (Ze xs)) (oA (Zi (.tmp 6) rfl U24) I0 (pM (Y5 (.const (.int .i64 0)) (iv 0) rfl) ?_)))))))))))
 refine kN 19 [] [(0, Ze xs), (1, .clo 81 [.el ([iv m]) 0]), (4, iv 0), (7, iv xs.length), (8, iv 0)] (Zc (Zz ?_))
 refine Yb (σ := {k : Nat // k ≤ xs.length ∧ Rd.noP xs (Rd.outB m) k}) (fun s => (ofL [], ofT 19 [(0, Ze xs), (1, .clo 81 [.el ([iv m]) 0]), (7, iv xs.length), (8, iv s.1)])) (fun s => xs.length - s.1) ⟨0, Nat.zero_le _, Rd.noP_zero _ _⟩ (Zw [] _ rfl (by kernel_rfl) (by kernel_rfl)) (fun s => ?_)
 obtain ⟨k, hk0, hs0⟩ := s
 show ETri J w0 (ofL []) (ofT 19 [(0, Ze xs), (1, .clo 81 [.el ([iv m]) 0]), (7, iv xs.length), (8, iv k)]) _
 refine Zb ?_
 by_cases hs1 : ((k : Nat) : Int) < ((xs.length : Nat) : Int)
 refine Za (oC (ZT rfl (dT hs1)) I0 I0 (kN 19 [] [(0, Ze xs), (1, .clo 81 [.el ([iv m]) 0]), (7, iv xs.length), (8, iv k), (9, bv true)] (Zc (Zb (Zu rfl (Zk (Zc (Zb (Zz (Zb (Za ?_)))))))))))
 refine pM (mT 8 (iv k)) (pM (aT 10 (iv k)) (kN 19 [] [(0, Ze xs), (1, .clo 81 [.el ([iv m]) 0]), (5, iv k), (7, iv xs.length), (8, iv k), (9, bv true)] (Zc (Zb ?_))))
 by_cases hs2 : (Rd.outB m xs[k]) = true
 refine Za (pM (mT 1 (.clo 81 [.el ([iv m]) 0])) (pM (mT 0 (Ze xs)) (pM (mT 5 (iv k)) (oC (Zo (off := k * 1) (.tmp 12) (.tmp 13) rfl U24 (by kernel_rfl) (by omega) (by omega) rfl) I0 I0 (oA (Zp (X := iv xs[k]) (.tmp 14) rfl U3 rfl (ZN xs (by omega))) I0 (oC (sp_callClo (c := .tmp 11) (xs := #[.tmp 15]) (Cs := [.el ([iv m]) 0]) [] (ZJ outB_c hs2) rfl (by kernel_rfl) rfl (Xs := [iv xs[k]]) rfl rfl rfl rfl rfl) I0 I0 (kN 19 [] [(0, Ze xs), (1, .clo 81 [.el ([iv m]) 0]), (5, iv k), (7, iv xs.length), (8, iv k), (9, bv true), (16, bv true)] (Zc (Zu rfl (Zb (Za ?_)))))))))))
 refine pM (mT 5 (iv k)) (pM (aT 17 (iv k)) (Zv (Zc (Zt (Zq (Zd (Zd (Zq (Zd ?_)))))))))
 refine Zr Try.results87 (.tmp rfl) ?_
 exact congrArg (fun x : Int => AV.v (.int .i64 x)) ((Rd.ixP_at (by omega) hs0 hs2).symm)
 have hs2f : (Rd.outB m xs[k]) = false := by simpa using hs2
 refine Za (pM (mT 1 (.clo 81 [.el ([iv m]) 0])) (pM (mT 0 (Ze xs)) (pM (mT 5 (iv k)) (oC (Zo (off := k * 1) (.tmp 12) (.tmp 13) rfl U24 (by kernel_rfl) (by omega) (by omega) rfl) I0 I0 (oA (Zp (X := iv xs[k]) (.tmp 14) rfl U3 rfl (ZN xs (by omega))) I0 (oC (sp_callClo (c := .tmp 11) (xs := #[.tmp 15]) (Cs := [.el ([iv m]) 0]) [] (ZJ outB_c hs2f) rfl (by kernel_rfl) rfl (Xs := [iv xs[k]]) rfl rfl rfl rfl rfl) I0 I0 (kN 19 [] [(0, Ze xs), (1, .clo 81 [.el ([iv m]) 0]), (5, iv k), (7, iv xs.length), (8, iv k), (9, bv true), (16, bv false)] (Zc (Zn rfl (Zk (ZU ?_)))))))))))
 refine Zc (Za (oC (ZV (c := ((k + 1 : Nat) : Int)) rfl (w64 (by omega) (by omega) (by omega))) I0 I0 (pM (mT 18 (iv (k + 1 : Nat))) (kN 19 [] [(0, Ze xs), (1, .clo 81 [.el ([iv m]) 0]), (5, iv k), (7, iv xs.length), (8, iv (k + 1 : Nat)), (9, bv true), (16, bv false)] (Zc ?_)))))
 refine ZH ⟨k + 1, by omega, Rd.noP_succ (by omega) hs0 hs2f⟩ (show xs.length - (k + 1) < xs.length - k by omega) ?_
 exact Zw [] _ rfl (by kernel_rfl) (by kernel_rfl)
 refine Za (oC (ZT rfl (dF hs1)) I0 I0 (kN 19 [] [(0, Ze xs), (1, .clo 81 [.el ([iv m]) 0]), (7, iv xs.length), (8, iv k), (9, bv false)] (Zc (Zb (Zn rfl (Z8 (Zx (Zx (YN (Zc (Zb ?_)))))))))))
 refine Za (pM (aC (.int .i64 (-1))) (Zv (Zc (Zt ?_))))
 refine Zr Try.results87 (.tmp rfl) ?_
 exact congrArg (fun x : Int => AV.v (.int .i64 x)) ((Rd.ixP_none (k := k) (by omega) hs0).symm)
theorem hasOut_c (xs : List Int) {m : Int} (lx : xs.length ≤ 9223372036854775807) : Ctr Try.prog J 58 [Ze xs, .clo 81 [.el ([iv m]) 0]] (bv (xs.any (Rd.outB m))) := by
 refine ZI Try.func58 rfl (by intro X hX; simp only [List.mem_cons, List.not_mem_nil, or_false] at hX; rcases hX with rfl | rfl; exact Z5 _; exact .clo (fun j hj => match j, hj with | 0, _ => .el (YH (by intro X hX; rw [List.mem_singleton.1 hX]; exact .v _)))) (n := 9) rfl (by simp) (fun w0 => ?_)
 refine kW 9 [] [(0, Ze xs), (1, .clo 81 [.el ([iv m]) 0])] (Zb (Za (pM (aC (.bool false)) (kN 9 [] [(0, Ze xs), (1, .clo 81 [.el ([iv m]) 0]), (4, bv false)] (Zc (Zb (Za (pM (mT 0 (Ze xs)) (pM (mT 1 (.clo 81 [.el ([iv m]) 0])) (oD (Zm (c := .func 87) (xs := #[.tmp 5, .tmp 6]) [] (ixOut_c xs lx) rfl (by kernel_rfl) rfl (Xs := [Ze xs, .clo 81 [.el ([iv m]) 0]]) rfl rfl rfl) I0 I0 I0 (oC (Y9 rfl rfl) I0 I0 ?_)))))))))))
 refine pM (aT 8 (bv (decide (0 ≤ (Rd.ixP xs (Rd.outB m)))))) (Zv (Zc (Zt ?_)))
 refine Zr Try.results58 (.tmp rfl) ?_
 exact congrArg (fun x : Bool => AV.v (.bool x)) (Rd.anyP_ix xs (Rd.outB m))
theorem areBelow_c (xs : List Int) {m : Int} (lx : xs.length ≤ 9223372036854775807) : Ctr Try.prog J 53 [Ze xs, iv m] (bv (Rd.belB xs m)) := by
 refine ZI Try.func53 rfl (by intro X hX; simp only [List.mem_cons, List.not_mem_nil, or_false] at hX; rcases hX with rfl | rfl; exact Z5 _; exact .v _) (n := 9) rfl (by simp) (fun w0 => ?_)
 refine kW 9 [] [(0, Ze xs), (1, iv m)] (Zb (Za (Yl rfl (Ya (X := iv m) (k := 1) (.tmp 1) rfl rfl) ⟨I0, T0⟩ T0 rfl (pM (aC (.bool false)) (kN 9 [(1, .box 3 [iv m])] [(0, Ze xs), (3, .box 1 0), (4, bv false)] (Zc (Zb (Za (pM (mT 0 (Ze xs)) (oA (sp_makeFunc (xs := #[.tmp 3]) (Xs := [.box 1 0]) rfl rfl) I0 (Yl rfl (Zm (c := .func 58) (xs := #[.tmp 5, .tmp 6]) [(1, .box 3 [iv m])] (hasOut_c xs lx) rfl (by kernel_rfl) rfl (Xs := [Ze xs, .clo 81 [.box 1 0]]) rfl rfl rfl) ⟨I0, I0, I0, T0⟩ ⟨rfl, T0⟩ T0 ?_)))))))))))
 refine oA (ZC rfl rfl) I0 (pM (aT 8 (bv (!(xs.any (Rd.outB m))))) (Zv (Zc (Zt ?_))))
 refine Zr Try.results53 (.tmp rfl) ?_
 exact rfl
end Go.Proofs.Ytoefmdjgnabgfaa

namespace Go.Proofs.Ytoefmdjgnabgfaa
set_option maxRecDepth 100000
set_option maxHeartbeats 6400000
open Go.RowKit Go.Deep
variable {J : World → Prop}
theorem win_c {x lo hi : Int} : Ctr Try.prog J 67 [iv x, iv lo, iv hi] (bv (Rd.inW lo hi x)) := by
 refine ZI Try.func67 rfl (by intro X hX; simp only [List.mem_cons, List.not_mem_nil, or_false] at hX; rcases hX with rfl | rfl | rfl; exact .v _; exact .v _; exact .v _) (n := 15) rfl (by simp) (fun w0 => ?_)
 refine kW 15 [] [(0, iv x), (1, iv lo), (2, iv hi)] (Zb (Za (pM (aC (.bool false)) (kN 15 [] [(0, iv x), (1, iv lo), (2, iv hi), (6, bv false)] (Zc (Zb ?_))))))
 by_cases hs1 : lo ≤ x
 refine Za (pM (mT 0 (iv x)) (pM (mT 1 (iv lo)) (oC (Y9 rfl (dT hs1)) I0 I0 (pM (mT 9 (bv true)) (qM (mT 0 (iv x)) (qM (mT 2 (iv hi)) (gC (sp_leq rfl rfl) I0 I0 (pP (Zf (.tmp 10) (.tmp 13) (.const (.bool false)) true (bv (decide (x ≤ hi))) (bv false) rfl) (pM (aT 14 (bv (decide (x ≤ hi)))) (Zv (Zc ?_)))))))))))
 refine Zt ?_
 refine Zr Try.results67 (.tmp rfl) ?_
 exact congrArg (fun x : Bool => AV.v (.bool x)) ((by simp only [Rd.inW, hs1, decide_true, decide_false, Bool.and_true, Bool.true_and, Bool.false_and, Bool.and_false, Bool.not_true, Bool.not_false]))
 refine Za (pM (mT 0 (iv x)) (pM (mT 1 (iv lo)) (oC (Y9 rfl (dF hs1)) I0 I0 (pM (mT 9 (bv false)) (qK (qK (qK (pP (Zf (.tmp 10) (.tmp 13) (.const (.bool false)) false (.v (.tuple #[])) (bv false) rfl) (pM (aT 14 (bv false)) (Zv (Zc ?_)))))))))))
 refine Zt ?_
 refine Zr Try.results67 (.tmp rfl) ?_
 exact congrArg (fun x : Bool => AV.v (.bool x)) ((by simp only [Rd.inW, hs1, decide_true, decide_false, Bool.and_true, Bool.true_and, Bool.false_and, Bool.and_false, Bool.not_true, Bool.not_false]))
theorem states_c {p : Fm} (lst : p.states.length ≤ 9223372036854775807) (xs : List Int) (lx : xs.length ≤ 100) : Ctr Try.prog J 66 [.agg (cFm p), Ze xs] (bv (Rd.belB xs ((p.states.length : Nat) : Int))) := by
 refine ZI Try.func66 rfl (by intro X hX; simp only [List.mem_cons, List.not_mem_nil, or_false] at hX; rcases hX with rfl | rfl; exact ZD (Yo p); exact Z5 _) (n := 22) rfl (by simp) (fun w0 => ?_)
 refine kW 22 [] [(0, .agg (cFm p)), (1, Ze xs)] (Zb (Za (Yl rfl (Ya (X := .agg (cFm p)) (k := 1) (.tmp 0) rfl rfl) ⟨I0, T0⟩ T0 rfl (pM (aC (.bool false)) (kN 22 [(1, .box 27 (cFm p))] [(1, Ze xs), (2, .box 1 0), (4, bv false)] (Zc (Zb (Zb (Za (pM (aC (.int .i64 0)) (kN 22 [(1, .box 27 (cFm p))] [(1, Ze xs), (2, .box 1 0), (4, bv false), (5, iv 0)] ?_)))))))))))
 refine Zc (Zz ?_)
 refine Yb (σ := {k : Nat // k ≤ xs.length ∧ Rd.noP xs (Rd.outB ((p.states.length : Nat) : Int)) k}) (fun s => (ofL [(1, .box 27 (cFm p))], ofT 22 [(1, Ze xs), (2, .box 1 0), (5, iv s.1)])) (fun s => xs.length - s.1) ⟨0, Nat.zero_le _, Rd.noP_zero _ _⟩ (Zw _ _ rfl (by kernel_rfl) (by kernel_rfl)) (fun s => ?_)
 obtain ⟨k, hk0, hs0⟩ := s
 show ETri J w0 (ofL [(1, .box 27 (cFm p))]) (ofT 22 [(1, Ze xs), (2, .box 1 0), (5, iv k)]) _
 refine Zb (Zb ?_)
 by_cases hs1 : ((k : Nat) : Int) < ((xs.length : Nat) : Int)
 refine Za (pM (mT 5 (iv k)) (pM (mT 1 (Ze xs)) (oA (Zi (.tmp 7) rfl U24) I0 (oC (ZT rfl (dT hs1)) I0 I0 (kN 22 [(1, .box 27 (cFm p))] [(1, Ze xs), (2, .box 1 0), (5, iv k), (9, bv true)] (Zc (Zu rfl (Zk (Zc (Zb (Zz ?_)))))))))))
 refine Zb ?_
 by_cases hs2 : (Rd.inW 0 (((p.states.length : Nat) : Int) - 1) xs[k]) = true
 refine ZQ (dM (mT 1 (Ze xs)) (dM (mT 5 (iv k)) (dC (Zo (off := k * 1) (.tmp 12) (.tmp 13) rfl U24 (by kernel_rfl) (by omega) (by omega) rfl) I0 I0 (dA (Zp (X := iv xs[k]) (.tmp 14) rfl U3 rfl (ZN xs (by omega))) I0 (dA (fb 2 2 U27 1) I0 (dB (lb (Yj p.states) 16 U22) I0 rfl (dA (Zi (.tmp 17) rfl U22) I0 (dC (Yn (c := ((p.states.length : Nat) : Int) - 1) rfl (w64 (by omega) (by omega) (by omega))) I0 I0 (dR (Zm (c := .func 67) (xs := #[.tmp 15, .const (.int .i64 0), .tmp 19]) [] (ZJ win_c hs2) rfl (by kernel_rfl) rfl (Xs := [iv xs[k], iv 0, iv (((p.states.length : Nat) : Int) - 1)]) rfl rfl rfl) ⟨I0, I0, I0, I0, T0⟩ T0 T0 (dA (ZC rfl rfl) I0 (dE ?_))))))))))) (by kernel_rfl)
 show ETri J w0 _ _ _
 refine kW 22 [(1, .box 27 (cFm p))] [(1, Ze xs), (2, .box 1 0), (5, iv k), (9, bv true), (21, bv false)] (Zc (Zn rfl (Zk (ZU (Zc (Za (pM (mT 5 (iv k)) (oC (ZV (c := ((k + 1 : Nat) : Int)) rfl (w64 (by omega) (by omega) (by omega))) I0 I0 (pM (aT 11 (iv (k + 1 : Nat))) (kN 22 [(1, .box 27 (cFm p))] [(1, Ze xs), (2, .box 1 0), (5, iv (k + 1 : Nat)), (9, bv true), (21, bv false)] (Zc ?_)))))))))))
 refine ZH ⟨k + 1, by omega, Rd.noP_succ (by omega) hs0 (Rd.inW_in hs2 (by omega))⟩ (show xs.length - (k + 1) < xs.length - k by omega) ?_
 exact Zw _ _ rfl (by kernel_rfl) (by kernel_rfl)
 have hs2f : (Rd.inW 0 (((p.states.length : Nat) : Int) - 1) xs[k]) = false := by simpa using hs2
 refine ZQ (dM (mT 1 (Ze xs)) (dM (mT 5 (iv k)) (dC (Zo (off := k * 1) (.tmp 12) (.tmp 13) rfl U24 (by kernel_rfl) (by omega) (by omega) rfl) I0 I0 (dA (Zp (X := iv xs[k]) (.tmp 14) rfl U3 rfl (ZN xs (by omega))) I0 (dA (fb 2 2 U27 1) I0 (dB (lb (Yj p.states) 16 U22) I0 rfl (dA (Zi (.tmp 17) rfl U22) I0 (dC (Yn (c := ((p.states.length : Nat) : Int) - 1) rfl (w64 (by omega) (by omega) (by omega))) I0 I0 (dR (Zm (c := .func 67) (xs := #[.tmp 15, .const (.int .i64 0), .tmp 19]) [] (ZJ win_c hs2f) rfl (by kernel_rfl) rfl (Xs := [iv xs[k], iv 0, iv (((p.states.length : Nat) : Int) - 1)]) rfl rfl rfl) ⟨I0, I0, I0, I0, T0⟩ T0 T0 (dA (ZC rfl rfl) I0 (dE ?_))))))))))) (by kernel_rfl)
 show ETri J w0 _ _ _
 refine kW 22 [(1, .box 27 (cFm p))] [(1, Ze xs), (2, .box 1 0), (5, iv k), (9, bv true), (21, bv true)] (Zc (Zu rfl (Zb (Za (pM (aC (.bool false)) (Zv (Zc (Zt (Zq (Zd (Zd ?_)))))))))))
 refine Zq (Zd ?_)
 refine Zr Try.results66 (.tmp rfl) ?_
 exact congrArg (fun x : Bool => AV.v (.bool x)) ((Rd.bel_bad (by omega) (Rd.inW_out hs2f (by omega))).symm)
 refine Za (pM (mT 5 (iv k)) (pM (mT 1 (Ze xs)) (oA (Zi (.tmp 7) rfl U24) I0 (oC (ZT rfl (dF hs1)) I0 I0 (kN 22 [(1, .box 27 (cFm p))] [(1, Ze xs), (2, .box 1 0), (5, iv k), (9, bv false)] (Zc (Zn rfl (Z8 (Zx (Zx (YN ?_)))))))))))
 refine Zc (Zb (Za (pM (aC (.bool true)) (Zv (Zc (Zt ?_))))))
 refine Zr Try.results66 (.tmp rfl) ?_
 exact congrArg (fun x : Bool => AV.v (.bool x)) ((Rd.bel_all (k := k) (by omega) hs0).symm)
end Go.Proofs.Ytoefmdjgnabgfaa

namespace Go.Proofs.Ytoefmdjgnabgfaa
set_option maxRecDepth 100000
set_option maxHeartbeats 6400000
open Go.RowKit Go.Deep
variable {J : World → Prop}
theorem Kp {p : Fm} (HP : FmOk p) {c : Cf} (HC : Rd.CgOk c) : Ctr Try.prog J 22 [.agg (cFm p), .agg (Rd.cCg c)] (bv (Ct.plB p c)) := by
 have l1 := HP.lstates
 have l2 := HC.lst
 refine ZI Try.func22 rfl (by intro X hX; simp only [List.mem_cons, List.not_mem_nil, or_false] at hX; rcases hX with rfl | rfl; exact ZD (Yo p); exact ZD (Rd.plain_cg c)) (n := 24) rfl (by simp) (fun w0 => ?_)
 refine kW 24 [] [(0, .agg (cFm p)), (1, .agg (Rd.cCg c))] (Zb (Za (Yl rfl (Ya (X := .agg (cFm p)) (k := 1) (.tmp 0) rfl rfl) ⟨I0, T0⟩ T0 rfl (Yl rfl (Ya (X := .agg (Rd.cCg c)) (k := 2) (.tmp 1) rfl rfl) ⟨I0, T0⟩ T0 rfl (pM (aC (.bool false)) (kN 24 [(1, .box 27 (cFm p)), (2, .box 32 (Rd.cCg c))] [(2, .box 1 0), (3, .box 2 0), (4, bv false)] (Zc (Zb ?_))))))))
 by_cases hs1 : (Rd.belB c.st ((p.states.length : Nat) : Int)) = true
 by_cases hs2 : 0 ≤ c.cor
 refine Za (oA (fb 1 3 U32 1) I0 (oB (lb (Ze c.st) 5 U24) I0 rfl (oA (fb 2 2 U27 1) I0 (oB (lb (Yj p.states) 7 U22) I0 rfl (oA (Zi (.tmp 8) rfl U22) I0 (oD (Zm (c := .func 53) (xs := #[.tmp 6, .tmp 9]) [] (ZJ (areBelow_c c.st (Nat.le_trans HC.lst (by decide))) hs1) rfl (by kernel_rfl) rfl (Xs := [Ze c.st, iv p.states.length]) rfl rfl rfl) I0 I0 I0 (pM (mT 10 (bv true)) (gA (fb 2 3 U32 1) I0 (gB (lb (iv c.cor) 12 U3) I0 rfl (gC (Y9 rfl (dT hs2)) I0 I0 (pP (Zf (.tmp 11) (.tmp 14) (.const (.bool false)) true (bv true) (bv false) rfl) ?_)))))))))))
 refine pM (mT 15 (bv true)) (gA (fb 2 3 U32 1) I0 (gB (lb (iv c.cor) 17 U3) I0 rfl (gA (fb 1 3 U32 1) I0 (gB (lb (Ze c.st) 19 U24) I0 rfl (gA (Zi (.tmp 20) rfl U24) I0 (gC (sp_leq rfl rfl) I0 I0 (pP (Zf (.tmp 16) (.tmp 22) (.const (.bool false)) true (bv (decide (c.cor ≤ ((c.st.length : Nat) : Int)))) (bv false) rfl) (pM (aT 23 (bv (decide (c.cor ≤ ((c.st.length : Nat) : Int))))) (Zv (Zc (Zt ?_)))))))))))
 refine Zr Try.results22 (.tmp rfl) ?_
 exact congrArg (fun x : Bool => AV.v (.bool x)) ((by simp only [Ct.plB, hs1, hs2, decide_true, decide_false, Bool.and_true, Bool.true_and, Bool.false_and, Bool.and_false]))
 refine Za (oA (fb 1 3 U32 1) I0 (oB (lb (Ze c.st) 5 U24) I0 rfl (oA (fb 2 2 U27 1) I0 (oB (lb (Yj p.states) 7 U22) I0 rfl (oA (Zi (.tmp 8) rfl U22) I0 (oD (Zm (c := .func 53) (xs := #[.tmp 6, .tmp 9]) [] (ZJ (areBelow_c c.st (Nat.le_trans HC.lst (by decide))) hs1) rfl (by kernel_rfl) rfl (Xs := [Ze c.st, iv p.states.length]) rfl rfl rfl) I0 I0 I0 (pM (mT 10 (bv true)) (gA (fb 2 3 U32 1) I0 (gB (lb (iv c.cor) 12 U3) I0 rfl (gC (Y9 rfl (dF hs2)) I0 I0 (pP (Zf (.tmp 11) (.tmp 14) (.const (.bool false)) true (bv false) (bv false) rfl) ?_)))))))))))
 refine pM (mT 15 (bv false)) (qK (qK (qK (qK (qK (qK (pP (Zf (.tmp 16) (.tmp 22) (.const (.bool false)) false (.v (.tuple #[])) (bv false) rfl) (pM (aT 23 (bv false)) (Zv (Zc (Zt ?_)))))))))))
 refine Zr Try.results22 (.tmp rfl) ?_
 exact congrArg (fun x : Bool => AV.v (.bool x)) ((by simp only [Ct.plB, hs1, hs2, decide_true, decide_false, Bool.and_true, Bool.true_and, Bool.false_and, Bool.and_false]))
 have hs1f : (Rd.belB c.st ((p.states.length : Nat) : Int)) = false := by simpa using hs1
 refine Za (oA (fb 1 3 U32 1) I0 (oB (lb (Ze c.st) 5 U24) I0 rfl (oA (fb 2 2 U27 1) I0 (oB (lb (Yj p.states) 7 U22) I0 rfl (oA (Zi (.tmp 8) rfl U22) I0 (oD (Zm (c := .func 53) (xs := #[.tmp 6, .tmp 9]) [] (ZJ (areBelow_c c.st (Nat.le_trans HC.lst (by decide))) hs1f) rfl (by kernel_rfl) rfl (Xs := [Ze c.st, iv p.states.length]) rfl rfl rfl) I0 I0 I0 (pM (mT 10 (bv false)) (qK (qK (qK (pP (Zf (.tmp 11) (.tmp 14) (.const (.bool false)) false (.v (.tuple #[])) (bv false) rfl) ?_)))))))))))
 refine pM (mT 15 (bv false)) (qK (qK (qK (qK (qK (qK (pP (Zf (.tmp 16) (.tmp 22) (.const (.bool false)) false (.v (.tuple #[])) (bv false) rfl) (pM (aT 23 (bv false)) (Zv (Zc (Zt ?_)))))))))))
 refine Zr Try.results22 (.tmp rfl) ?_
 exact congrArg (fun x : Bool => AV.v (.bool x)) ((by simp only [Ct.plB, hs1f, decide_true, decide_false, Bool.and_true, Bool.true_and, Bool.false_and, Bool.and_false]))
theorem plain_c {p : Fm} (HP : FmOk p) {c : Cf} (HC : Rd.CgOk c) : Ctr Try.prog J 35 [.agg (cFm p), .agg (Rd.cCg c)] (bv (Ct.plB p c)) := by
 have l1 := HP.lstates
 have l2 := HC.lst
 refine ZI Try.func35 rfl (by intro X hX; simp only [List.mem_cons, List.not_mem_nil, or_false] at hX; rcases hX with rfl | rfl; exact ZD (Yo p); exact ZD (Rd.plain_cg c)) (n := 17) rfl (by simp) (fun w0 => ?_)
 refine kW 17 [] [(0, .agg (cFm p)), (1, .agg (Rd.cCg c))] (Zb (Za (Yl rfl (Ya (X := .agg (cFm p)) (k := 1) (.tmp 0) rfl rfl) ⟨I0, T0⟩ T0 rfl (Yl rfl (Ya (X := .agg (Rd.cCg c)) (k := 2) (.tmp 1) rfl rfl) ⟨I0, T0⟩ T0 rfl (pM (aC (.bool false)) (kN 17 [(1, .box 27 (cFm p)), (2, .box 32 (Rd.cCg c))] [(2, .box 1 0), (3, .box 2 0), (4, bv false)] (Zc (Zb ?_))))))))
 by_cases hs1 : (Rd.belB c.st ((p.states.length : Nat) : Int)) = true
 refine Za (oB (Zj (Y := .box 27 (cFm p)) (ds := cFm p) (z := 10) (.tmp 2) rfl U27 rfl (by kernel_rfl) (by decide) (by kernel_rfl) (by kernel_rfl)) I0 rfl (oA (fb 1 3 U32 1) I0 (oB (lb (Ze c.st) 6 U24) I0 rfl (oD (Zm (c := .func 66) (xs := #[.tmp 5, .tmp 7]) [] (ZJ (states_c HP.lstates c.st HC.lst) hs1) rfl (by kernel_rfl) rfl (Xs := [.agg (cFm p), Ze c.st]) rfl rfl rfl) I0 I0 I0 (pM (mT 8 (bv true)) (gA (fb 2 3 U32 1) I0 (gB (lb (iv c.cor) 10 U3) I0 rfl (gA (fb 1 3 U32 1) I0 (gB (lb (Ze c.st) 12 U24) I0 rfl (gA (Zi (.tmp 13) rfl U24) I0 (YD rfl (Zm (c := .func 67) (xs := #[.tmp 11, .const (.int .i64 0), .tmp 14]) [] win_c rfl (by kernel_rfl) rfl (Xs := [iv c.cor, iv 0, iv c.st.length]) rfl rfl rfl) ⟨I0, I0, I0, I0, T0⟩ T0 T0 ?_)))))))))))
 refine pP (Zf (.tmp 9) (.tmp 15) (.const (.bool false)) true (bv (Rd.inW 0 ((c.st.length : Nat) : Int) c.cor)) (bv false) rfl) (pM (aT 16 (bv (Rd.inW 0 ((c.st.length : Nat) : Int) c.cor))) (Zv (Zc (Zt ?_))))
 refine Zr Try.results35 (.tmp rfl) ?_
 exact congrArg (fun x : Bool => AV.v (.bool x)) ((by simp only [Ct.plB, Rd.inW, hs1, decide_true, decide_false, Bool.and_true, Bool.true_and, Bool.false_and, Bool.and_false]))
 have hs1f : (Rd.belB c.st ((p.states.length : Nat) : Int)) = false := by simpa using hs1
 refine Za (oB (Zj (Y := .box 27 (cFm p)) (ds := cFm p) (z := 10) (.tmp 2) rfl U27 rfl (by kernel_rfl) (by decide) (by kernel_rfl) (by kernel_rfl)) I0 rfl (oA (fb 1 3 U32 1) I0 (oB (lb (Ze c.st) 6 U24) I0 rfl (oD (Zm (c := .func 66) (xs := #[.tmp 5, .tmp 7]) [] (ZJ (states_c HP.lstates c.st HC.lst) hs1f) rfl (by kernel_rfl) rfl (Xs := [.agg (cFm p), Ze c.st]) rfl rfl rfl) I0 I0 I0 (pM (mT 8 (bv false)) (qK (qK (qK (qK (qK (qK ?_)))))))))))
 refine pP (Zf (.tmp 9) (.tmp 15) (.const (.bool false)) false (.v (.tuple #[])) (bv false) rfl) (pM (aT 16 (bv false)) (Zv (Zc (Zt ?_))))
 refine Zr Try.results35 (.tmp rfl) ?_
 exact congrArg (fun x : Bool => AV.v (.bool x)) ((by simp only [Ct.plB, Rd.inW, hs1f, decide_true, decide_false, Bool.and_true, Bool.true_and, Bool.false_and, Bool.and_false]))
end Go.Proofs.Ytoefmdjgnabgfaa

namespace Go.Proofs.Ytoefmdjgnabgfaa
set_option maxRecDepth 100000
set_option maxHeartbeats 6400000
open Go.RowKit Go.Deep
variable {J : World → Prop}
theorem isShapeJ_c {xs : List Int} (hI : InOk xs) (hl : xs.length ≤ 100) (n : Int) : Ctr Try.prog J 26 [Ze xs, iv n] (bv (isShp xs n)) := ctr2 fun w v v' _ h h' => by
  rw [h'.v_inv]
  exact (KH n (YA hI (fun _ _ => Nat.zero_le _) h) (by omega)).mono fun e w' ⟨he, hw⟩ => ret_sc ⟨he, by rw [← hw]; exact Below.refl _ _⟩
theorem rowLinkJ_c {top c i : Int} (h0 : 0 ≤ i) (h1 : i < c) (hc : c ≤ 100) : Ctr Try.prog J 39 [iv top, iv c, iv i] (.agg (Ns.lk3 top c i)) := ctr3 fun w v v' v'' _ h h' h'' => by
  rw [h.v_inv, h'.v_inv, h''.v_inv]
  exact (rowLink_any top c i w h0 h1 (by omega)).mono fun _ _ hh => ⟨_, hh.1, .agg rfl fun j hj => (match j, hj with
    | 0, _ => .v _
    | 1, _ => .v _
    | 2, _ => .v _), hh.2⟩
theorem propErr_c {p : Fm} (HP : FmOk p) {q : Pq} (HQ : PqOk q) {kd : Int} : Ctr Try.prog J 25 [.agg (cFm p), .agg (cPq q), iv kd] (iv (Jd.prE p q kd)) := by
 refine ZI Try.func25 rfl (by intro X hX; simp only [List.mem_cons, List.not_mem_nil, or_false] at hX; rcases hX with rfl | rfl | rfl; exact ZD (Yo p); exact ZD (Yr q); exact .v _) (n := 18) rfl (by simp) (fun w0 => ?_)
 refine kW 18 [] [(0, .agg (cFm p)), (1, .agg (cPq q)), (2, iv kd)] (Zb (Za (Yl rfl (Ya (X := .agg (cFm p)) (k := 1) (.tmp 0) rfl rfl) ⟨I0, T0⟩ T0 rfl (Yl rfl (Ya (X := .agg (cPq q)) (k := 2) (.tmp 1) rfl rfl) ⟨I0, T0⟩ T0 rfl (pM (aC (.int .i64 0)) (kN 18 [(1, .box 27 (cFm p)), (2, .box 30 (cPq q))] [(2, iv kd), (3, .box 1 0), (4, .box 2 0), (6, iv 0)] (Zc (Zb (Zb (Za (oB (Zj (Y := .box 27 (cFm p)) (ds := cFm p) (z := 10) (.tmp 3) rfl U27 rfl (by kernel_rfl) (by decide) (by kernel_rfl) (by kernel_rfl)) I0 rfl ?_)))))))))))
 refine oB (Zj (Y := .box 30 (cPq q)) (ds := cPq q) (z := 6) (.tmp 4) rfl U30 rfl (by kernel_rfl) (by decide) (by kernel_rfl) (by kernel_rfl)) I0 rfl (oD (Zm (c := .func 55) (xs := #[.tmp 8, .tmp 9]) [] (qValidateProperty_c HP HQ) rfl (by kernel_rfl) rfl (Xs := [.agg (cFm p), .agg (cPq q)]) rfl rfl rfl) I0 I0 I0 (pM (aT 10 (iv (vpE p q))) (kN 18 [(2, .box 30 (cPq q))] [(2, iv kd), (4, .box 2 0), (6, iv 0), (7, iv (vpE p q))] (Zc (Zb ?_)))))
 by_cases hs1 : vpE p q = 0
 refine Za (pM (mT 7 (iv (vpE p q))) (oC (ZE rfl (dT' hs1)) I0 I0 (kN 18 [(2, .box 30 (cPq q))] [(2, iv kd), (4, .box 2 0), (6, iv 0), (7, iv (vpE p q)), (12, bv false)] (Zc (Zn rfl (Zk (Zc (Zb (Zb ?_)))))))))
 by_cases hs2 : q.kind = kd
 refine Za (oA (fb 1 4 U30 1) I0 (oB (lb (iv q.kind) 14 U3) I0 rfl (pM (mT 2 (iv kd)) (oC (ZE rfl (dT' hs2)) I0 I0 (kN 18 [] [(6, iv 0), (17, bv false)] (Zc (Zn rfl (Zk (Zc (Zb (Za ?_)))))))))))
 refine pM (aC (.int .i64 0)) (Zv (Zc (Zt ?_)))
 refine Zr Try.results25 (.tmp rfl) ?_
 rw [Jd.prE_o hs1 hs2]
 exact rfl
 refine Za (oA (fb 1 4 U30 1) I0 (oB (lb (iv q.kind) 14 U3) I0 rfl (pM (mT 2 (iv kd)) (oC (ZE rfl (dF' hs2)) I0 I0 (kN 18 [] [(6, iv 0), (17, bv true)] (Zc (Zu rfl (Zb (Za (pM (aC (.int .i64 7)) (Zv ?_)))))))))))
 refine Zc (Zt (Zd ?_))
 refine Zr Try.results25 (.tmp rfl) ?_
 rw [Jd.prE_k hs1 hs2]
 exact rfl
 refine Za (pM (mT 7 (iv (vpE p q))) (oC (ZE rfl (dF' hs1)) I0 I0 (kN 18 [(2, .box 30 (cPq q))] [(2, iv kd), (4, .box 2 0), (6, iv 0), (7, iv (vpE p q)), (12, bv true)] (Zc (Zu rfl (Zb (Za (pM (mT 7 (iv (vpE p q))) (pM (aT 13 (iv (vpE p q))) (Zv (Zc ?_)))))))))))
 refine Zt (Zd ?_)
 refine Zr Try.results25 (.tmp rfl) ?_
 rw [Jd.prE_v hs1]
 exact rfl
theorem linksR_c {top : Int} {c : Nat} (ht : top = 2 ∨ top = 3) (hc : c ≤ 100) {sh : List Int} : Ctr Try.prog J 28 [iv top, Ze sh, iv c] (.sl 3 c (Ns.lkZ top c c)) := by
 refine ZI Try.func28 rfl (by intro X hX; simp only [List.mem_cons, List.not_mem_nil, or_false] at hX; rcases hX with rfl | rfl | rfl; exact .v _; exact Z5 _; exact .v _) (n := 33) rfl (by simp) (fun w0 => ?_)
 refine kW 33 [] [(0, iv top), (1, Ze sh), (2, iv c)] (Zb (Za (pM (KS (.const (.slice none 0 0)) (.v (.slice none 0 0)) rfl) (kN 33 [] [(0, iv top), (1, Ze sh), (2, iv c), (6, .v (.slice none 0 0))] (Zc (Zb (Zb (Za (pM (mT 0 (iv top)) (kN 33 [] [(0, iv top), (1, Ze sh), (2, iv c), (6, .v (.slice none 0 0)), (9, iv top)] (Zc ?_)))))))))))
 refine Zz (Zb (Zb ?_))
 by_cases hs1 : top = 2
 refine Za (oC (ZA rfl (dT hs1)) I0 I0 (pM (aT 11 (bv true)) (kN 33 [] [(0, iv top), (1, Ze sh), (2, iv c), (6, .v (.slice none 0 0)), (9, iv top), (10, bv true)] (Zc (Zu rfl (Zk (Zc (Zu rfl (Zb (Za (pM (mT 2 (iv c)) ?_)))))))))))
 refine Yl rfl (sp_makeZ (k := 1) (n := c) (bytes := 24) (z := 3) (zv := .agg #[.int .i64 0, .int .i64 0, .int .i64 0]) true rfl U66 (by kernel_rfl) rfl (by decide) (by first | (show 24 * c ≤ _; omega) | omega) (by unfold maxLen; omega) (cs := (Ns.lkZ top c 0)) (Ns.lkZ_zero top c)) ⟨I0, I0, T0⟩ T0 rfl (pM (aT 14 (.own 1)) (kN 33 [(1, .row true 76 3 c (Ns.lkZ top c 0))] [(0, iv top), (2, iv c), (6, .v (.slice none 0 0)), (7, .own 1)] (Zc (Zb (Zb (Za (pM (mT 7 (.own 1)) (oB (sp_lenOwn (.tmp 15) rfl U66) I0 rfl (pM (Y5 (.const (.int .i64 0)) (iv 0) rfl) (kN 33 [(1, .row true 76 3 c (Ns.lkZ top c 0))] [(0, iv top), (2, iv c), (6, .v (.slice none 0 0)), (7, .own 1), (16, iv c), (17, iv 0)] (Zc ?_)))))))))))
 refine Zz ?_
 refine Yb (σ := {j : Nat // j ≤ c}) (fun s => (ofL [(1, .row true 76 3 c (Ns.lkZ top c s.1))], ofT 33 [(0, iv top), (2, iv c), (6, .v (.slice none 0 0)), (7, .own 1), (16, iv c), (17, iv s.1)])) (fun s => c - s.1) ⟨0, Nat.zero_le _⟩ (Zw _ _ rfl (by kernel_rfl) (by kernel_rfl)) (fun s => ?_)
 obtain ⟨j, hj0⟩ := s
 show ETri J w0 (ofL [(1, .row true 76 3 c (Ns.lkZ top c j))]) (ofT 33 [(0, iv top), (2, iv c), (6, .v (.slice none 0 0)), (7, .own 1), (16, iv c), (17, iv j)]) _
 refine Zb ?_
 by_cases hs2 : ((j : Nat) : Int) < ((c : Nat) : Int)
 refine Za (oC (ZT rfl (dT hs2)) I0 I0 (kN 33 [(1, .row true 76 3 c (Ns.lkZ top c j))] [(0, iv top), (2, iv c), (6, .v (.slice none 0 0)), (7, .own 1), (16, iv c), (17, iv j), (18, bv true)] (Zc (Zb (Zu rfl (Zk (Zc (Zb (Zz (Zb (Za ?_)))))))))))
 refine pM (mT 17 (iv j)) (pM (aT 19 (iv j)) (kN 33 [(1, .row true 76 3 c (Ns.lkZ top c j))] [(0, iv top), (2, iv c), (6, .v (.slice none 0 0)), (7, .own 1), (8, iv j), (16, iv c), (17, iv j), (18, bv true)] (Zc (Za (pM (mT 7 (.own 1)) (pM (mT 8 (iv j)) (pM (mT 0 (iv top)) (pM (mT 2 (iv c)) (pM (mT 8 (iv j)) (Yl rfl (Zm (c := .func 39) (xs := #[.tmp 22, .tmp 23, .tmp 24]) [] (rowLinkJ_c (by omega) (by omega) (by omega)) rfl (by kernel_rfl) rfl (Xs := [iv top, iv c, iv j]) rfl rfl rfl) ⟨I0, I0, I0, I0, T0⟩ T0 T0 (Yl rfl (sp_indexOwn (off := j * 3) (.tmp 20) (.tmp 21) rfl U66 (by kernel_rfl) (by omega) (by omega) rfl) ⟨I0, I0, T0⟩ ⟨rfl, T0⟩ T0 ?_)))))))))))
 refine Yl rfl (sp_storeRow (X := .agg [iv ((rowL top ((c : Nat) : Int) (((j) : Nat) : Int)).1), iv ((rowL top ((c : Nat) : Int) (((j) : Nat) : Int)).2.1), iv ((rowL top ((c : Nat) : Int) (((j) : Nat) : Int)).2.2)]) (off := j * 3) (cs := (Ns.lkZ top c j)) (ds := (Ns.lkZ top c (j + 1))) (zz := 3) (.tmp 26) (.tmp 25) rfl (by kernel_rfl) (by kernel_rfl) (fun _ d hd => by simp only [AV.cellsOf, Ns.lk3, List.mem_cons, List.not_mem_nil, or_false] at hd; rcases hd with rfl | rfl | rfl <;> rfl) (by kernel_rfl) (by rw [Ns.lkZ_len (by omega)]; omega) (Ns.lkZ_step (by omega))) ⟨I0, .inr (.inr (.inl ⟨_, rfl, rfl⟩)), T0⟩ ⟨rfl, T0⟩ rfl (kN 33 [(1, .row true 76 3 c (Ns.lkZ top c (j + 1)))] [(0, iv top), (2, iv c), (6, .v (.slice none 0 0)), (7, .own 1), (8, iv j), (16, iv c), (17, iv j), (18, bv true)] (ZU (Zc (Za (oC (ZV (c := ((j + 1 : Nat) : Int)) rfl (w64 (by omega) (by omega) (by omega))) I0 I0 (pM (mT 27 (iv (j + 1 : Nat))) (kN 33 [(1, .row true 76 3 c (Ns.lkZ top c (j + 1)))] [(0, iv top), (2, iv c), (6, .v (.slice none 0 0)), (7, .own 1), (8, iv j), (16, iv c), (17, iv (j + 1 : Nat)), (18, bv true)] (Zc ?_))))))))
 refine ZH ⟨j + 1, by omega⟩ (show c - (j + 1) < c - j by omega) ?_
 exact Zw _ _ rfl (by kernel_rfl) (by kernel_rfl)
 refine Za (oC (ZT rfl (dF hs2)) I0 I0 (kN 33 [(1, .row true 76 3 c (Ns.lkZ top c j))] [(0, iv top), (2, iv c), (6, .v (.slice none 0 0)), (7, .own 1), (16, iv c), (17, iv j), (18, bv false)] (Zc (Zb (Zn rfl (Z8 (Zx (Zx (YN (Zc (Zb ?_)))))))))))
 refine Za (pM (mT 7 (.own 1)) (pM (aT 28 (.own 1)) (Zv (Zc (Zt (Zq (Zd ?_)))))))
 refine Zr Try.results28 (.tmp rfl) ?_
 obtain rfl : j = c := by omega
 exact rfl
 refine Za (oC (ZA rfl (dF hs1)) I0 I0 (pM (aT 11 (bv false)) (kN 33 [] [(0, iv top), (1, Ze sh), (2, iv c), (6, .v (.slice none 0 0)), (9, iv top), (10, bv false)] (Zc (Zn rfl (Za (oC (ZA rfl (dT (by omega))) I0 I0 (pM (aT 12 (bv true)) (kN 33 [] [(0, iv top), (1, Ze sh), (2, iv c), (6, .v (.slice none 0 0)), (9, iv top), (10, bv true)] (Zc (Zu rfl ?_)))))))))))
 refine Zb (Za (pM (mT 2 (iv c)) (Yl rfl (sp_makeZ (k := 1) (n := c) (bytes := 24) (z := 3) (zv := .agg #[.int .i64 0, .int .i64 0, .int .i64 0]) true rfl U66 (by kernel_rfl) rfl (by decide) (by first | (show 24 * c ≤ _; omega) | omega) (by unfold maxLen; omega) (cs := (Ns.lkZ top c 0)) (Ns.lkZ_zero top c)) ⟨I0, I0, T0⟩ T0 rfl (pM (aT 14 (.own 1)) (kN 33 [(1, .row true 76 3 c (Ns.lkZ top c 0))] [(0, iv top), (2, iv c), (6, .v (.slice none 0 0)), (7, .own 1)] (Zc (Zb (Zb (Za (pM (mT 7 (.own 1)) (oB (sp_lenOwn (.tmp 15) rfl U66) I0 rfl ?_)))))))))))
 refine pM (Y5 (.const (.int .i64 0)) (iv 0) rfl) (kN 33 [(1, .row true 76 3 c (Ns.lkZ top c 0))] [(0, iv top), (2, iv c), (6, .v (.slice none 0 0)), (7, .own 1), (16, iv c), (17, iv 0)] (Zc (Zz ?_)))
 refine Yb (σ := {j : Nat // j ≤ c}) (fun s => (ofL [(1, .row true 76 3 c (Ns.lkZ top c s.1))], ofT 33 [(0, iv top), (2, iv c), (6, .v (.slice none 0 0)), (7, .own 1), (16, iv c), (17, iv s.1)])) (fun s => c - s.1) ⟨0, Nat.zero_le _⟩ (Zw _ _ rfl (by kernel_rfl) (by kernel_rfl)) (fun s => ?_)
 obtain ⟨j, hj0⟩ := s
 show ETri J w0 (ofL [(1, .row true 76 3 c (Ns.lkZ top c j))]) (ofT 33 [(0, iv top), (2, iv c), (6, .v (.slice none 0 0)), (7, .own 1), (16, iv c), (17, iv j)]) _
 refine Zb ?_
 by_cases hs3 : ((j : Nat) : Int) < ((c : Nat) : Int)
 refine Za (oC (ZT rfl (dT hs3)) I0 I0 (kN 33 [(1, .row true 76 3 c (Ns.lkZ top c j))] [(0, iv top), (2, iv c), (6, .v (.slice none 0 0)), (7, .own 1), (16, iv c), (17, iv j), (18, bv true)] (Zc (Zb (Zu rfl (Zk (Zc (Zb (Zz (Zb (Za ?_)))))))))))
 refine pM (mT 17 (iv j)) (pM (aT 19 (iv j)) (kN 33 [(1, .row true 76 3 c (Ns.lkZ top c j))] [(0, iv top), (2, iv c), (6, .v (.slice none 0 0)), (7, .own 1), (8, iv j), (16, iv c), (17, iv j), (18, bv true)] (Zc (Za (pM (mT 7 (.own 1)) (pM (mT 8 (iv j)) (pM (mT 0 (iv top)) (pM (mT 2 (iv c)) (pM (mT 8 (iv j)) (Yl rfl (Zm (c := .func 39) (xs := #[.tmp 22, .tmp 23, .tmp 24]) [] (rowLinkJ_c (by omega) (by omega) (by omega)) rfl (by kernel_rfl) rfl (Xs := [iv top, iv c, iv j]) rfl rfl rfl) ⟨I0, I0, I0, I0, T0⟩ T0 T0 (Yl rfl (sp_indexOwn (off := j * 3) (.tmp 20) (.tmp 21) rfl U66 (by kernel_rfl) (by omega) (by omega) rfl) ⟨I0, I0, T0⟩ ⟨rfl, T0⟩ T0 ?_)))))))))))
 refine Yl rfl (sp_storeRow (X := .agg [iv ((rowL top ((c : Nat) : Int) (((j) : Nat) : Int)).1), iv ((rowL top ((c : Nat) : Int) (((j) : Nat) : Int)).2.1), iv ((rowL top ((c : Nat) : Int) (((j) : Nat) : Int)).2.2)]) (off := j * 3) (cs := (Ns.lkZ top c j)) (ds := (Ns.lkZ top c (j + 1))) (zz := 3) (.tmp 26) (.tmp 25) rfl (by kernel_rfl) (by kernel_rfl) (fun _ d hd => by simp only [AV.cellsOf, Ns.lk3, List.mem_cons, List.not_mem_nil, or_false] at hd; rcases hd with rfl | rfl | rfl <;> rfl) (by kernel_rfl) (by rw [Ns.lkZ_len (by omega)]; omega) (Ns.lkZ_step (by omega))) ⟨I0, .inr (.inr (.inl ⟨_, rfl, rfl⟩)), T0⟩ ⟨rfl, T0⟩ rfl (kN 33 [(1, .row true 76 3 c (Ns.lkZ top c (j + 1)))] [(0, iv top), (2, iv c), (6, .v (.slice none 0 0)), (7, .own 1), (8, iv j), (16, iv c), (17, iv j), (18, bv true)] (ZU (Zc (Za (oC (ZV (c := ((j + 1 : Nat) : Int)) rfl (w64 (by omega) (by omega) (by omega))) I0 I0 (pM (mT 27 (iv (j + 1 : Nat))) (kN 33 [(1, .row true 76 3 c (Ns.lkZ top c (j + 1)))] [(0, iv top), (2, iv c), (6, .v (.slice none 0 0)), (7, .own 1), (8, iv j), (16, iv c), (17, iv (j + 1 : Nat)), (18, bv true)] (Zc ?_))))))))
 refine ZH ⟨j + 1, by omega⟩ (show c - (j + 1) < c - j by omega) ?_
 exact Zw _ _ rfl (by kernel_rfl) (by kernel_rfl)
 refine Za (oC (ZT rfl (dF hs3)) I0 I0 (kN 33 [(1, .row true 76 3 c (Ns.lkZ top c j))] [(0, iv top), (2, iv c), (6, .v (.slice none 0 0)), (7, .own 1), (16, iv c), (17, iv j), (18, bv false)] (Zc (Zb (Zn rfl (Z8 (Zx (Zx (YN (Zc (Zb ?_)))))))))))
 refine Za (pM (mT 7 (.own 1)) (pM (aT 28 (.own 1)) (Zv (Zc (Zt (Zq (Zd ?_)))))))
 refine Zr Try.results28 (.tmp rfl) ?_
 obtain rfl : j = c := by omega
 exact rfl
theorem linksT_c {xs : List Int} {c : Int} (hI : InOk xs) (h0 : 0 < xs.length) (h1 : xs.length ≤ 100) : Ctr Try.prog J 28 [iv 4, Ze xs, iv c] (Ns.lkT xs) := by
 refine ZI Try.func28 rfl (by intro X hX; simp only [List.mem_cons, List.not_mem_nil, or_false] at hX; rcases hX with rfl | rfl | rfl; exact .v _; exact Z5 _; exact .v _) (n := 33) rfl (by simp) (fun w0 => ?_)
 refine kW 33 [] [(0, iv 4), (1, Ze xs), (2, iv c)] (Zb (Za (pM (KS (.const (.slice none 0 0)) (.v (.slice none 0 0)) rfl) (kN 33 [] [(0, iv 4), (1, Ze xs), (2, iv c), (6, .v (.slice none 0 0))] (Zc (Zb (Zb (Za (pM (mT 0 (iv 4)) (kN 33 [] [(0, iv 4), (1, Ze xs), (2, iv c), (6, .v (.slice none 0 0)), (9, iv 4)] (Zc ?_)))))))))))
 refine Zz (Zb (Zb (Za (oC (ZA (r := false) rfl (by decide)) I0 I0 (pM (aT 11 (bv false)) (kN 33 [] [(0, iv 4), (1, Ze xs), (2, iv c), (6, .v (.slice none 0 0)), (9, iv 4), (10, bv false)] (Zc (Zn rfl (Za (oC (ZA (r := false) rfl (by decide)) I0 I0 (pM (aT 12 (bv false)) ?_)))))))))))
 refine kN 33 [] [(0, iv 4), (1, Ze xs), (2, iv c), (6, .v (.slice none 0 0)), (9, iv 4), (10, bv false)] (Zc (Zn rfl (Zb (Za (oC (ZA (r := true) rfl (by decide)) I0 I0 (pM (aT 30 (bv true)) (kN 33 [] [(1, Ze xs), (6, .v (.slice none 0 0)), (29, bv true)] (Zc (Zu rfl (Zb (Za ?_)))))))))))
 refine pM (mT 1 (Ze xs)) (oC (Zm (c := .func 40) (xs := #[.tmp 31]) [] (Ns.treeLinks_c hI h0 h1) rfl (by kernel_rfl) rfl (Xs := [Ze xs]) rfl rfl rfl) I0 I0 (pM (aT 32 (.fr (Ns.lkT xs))) (Zv (Zc (Zt (Zq (Zd ?_)))))))
 refine Zr Try.results28 (.tmp rfl) ?_
 exact rfl
theorem linksC_c {sh : List Int} {c : Int} : Ctr Try.prog J 28 [iv 1, Ze sh, iv c] (.v (.slice none 0 0)) := by
 refine ZI Try.func28 rfl (by intro X hX; simp only [List.mem_cons, List.not_mem_nil, or_false] at hX; rcases hX with rfl | rfl | rfl; exact .v _; exact Z5 _; exact .v _) (n := 33) rfl (by simp) (fun w0 => ?_)
 refine kW 33 [] [(0, iv 1), (1, Ze sh), (2, iv c)] (Zb (Za (pM (KS (.const (.slice none 0 0)) (.v (.slice none 0 0)) rfl) (kN 33 [] [(0, iv 1), (1, Ze sh), (2, iv c), (6, .v (.slice none 0 0))] (Zc (Zb (Zb (Za (pM (mT 0 (iv 1)) (kN 33 [] [(0, iv 1), (1, Ze sh), (2, iv c), (6, .v (.slice none 0 0)), (9, iv 1)] (Zc ?_)))))))))))
 refine Zz (Zb (Zb (Za (oC (ZA (r := false) rfl (by decide)) I0 I0 (pM (aT 11 (bv false)) (kN 33 [] [(0, iv 1), (1, Ze sh), (2, iv c), (6, .v (.slice none 0 0)), (9, iv 1), (10, bv false)] (Zc (Zn rfl (Za (oC (ZA (r := false) rfl (by decide)) I0 I0 (pM (aT 12 (bv false)) ?_)))))))))))
 refine kN 33 [] [(0, iv 1), (1, Ze sh), (2, iv c), (6, .v (.slice none 0 0)), (9, iv 1), (10, bv false)] (Zc (Zn rfl (Zb (Za (oC (ZA (r := false) rfl (by decide)) I0 I0 (pM (aT 30 (bv false)) (kN 33 [] [(1, Ze sh), (6, .v (.slice none 0 0)), (29, bv false)] (Zc (Zn rfl (Zk (ZU ?_)))))))))))
 refine Zc (Zb (Za (pM (KS (.const (.slice none 0 0)) (.v (.slice none 0 0)) rfl) (Zv (Zc (Zt ?_))))))
 refine Zr Try.results28 (.tmp rfl) ?_
 exact rfl
theorem shp_pos {xs : List Int} (h : shp xs = true) : 0 < xs.length := by
  cases xs with
  | nil => simp [shp, shpF] at h
  | cons a l => simp
theorem linksA_c {top : Int} {sh : List Int} {n : Nat} (hI : InOk sh) (hl : sh.length ≤ 100) (hn : n ≤ 100) (h : top = 2 ∨ top = 3 ∨ (top = 4 ∧ isShp sh ((n : Nat) : Int) = true)) : Ctr Try.prog J 28 [iv top, Ze sh, iv ((n : Nat) : Int)] (Jd.lkA top sh n) := by
  rcases h with h | h | ⟨rfl, h⟩
  · have := linksR_c (J := J) (top := top) (c := n) (.inl h) hn (sh := sh)
    rw [Jd.lkZ_row (sh := sh) (by omega)] at this
    exact this
  · have := linksR_c (J := J) (top := top) (c := n) (.inr h) hn (sh := sh)
    rw [Jd.lkZ_row (sh := sh) (by omega)] at this
    exact this
  unfold isShp at h
  simp only [Bool.and_eq_true, decide_eq_true_eq] at h
  obtain rfl : sh.length = n := by omega
  rw [← Jd.lkA_tree]
  exact linksT_c hI (shp_pos h.2) hl
theorem links_any {top : Int} {sh : List Int} {n : Nat} (hI : InOk sh) (hl : sh.length ≤ 100) (hn : n ≤ 100) (h : top = 1 ∨ top = 2 ∨ top = 3 ∨ (top = 4 ∧ isShp sh ((n : Nat) : Int) = true)) : Ctr Try.prog J 28 [iv top, Ze sh, iv ((n : Nat) : Int)] .any := by
  rcases h with rfl | h
  · exact fun w vs hJ hl hv => (linksC_c w vs hJ hl hv).mono fun e w' ⟨v, he, hp, hb⟩ => ⟨v, he, .any _, hb⟩
  exact fun w vs hJ hl' hv => (linksA_c hI hl hn h w vs hJ hl' hv).mono fun e w' ⟨v, he, hp, hb⟩ => ⟨v, he, .any _, hb⟩
end Go.Proofs.Ytoefmdjgnabgfaa
