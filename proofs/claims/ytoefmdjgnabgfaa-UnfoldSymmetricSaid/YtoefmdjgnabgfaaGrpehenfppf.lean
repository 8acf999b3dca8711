import Derived.Test.YtoefmdjgnabgfaaProg
import Derived.ChangeArms
import Derived.Test.YtoefmdjgnabgfaaGrpikbeipmj
import Derived.Test.YtoefmdjgnabgfaaGrpaflcfklf
import Derived.Test.YtoefmdjgnabgfaaGrpnkffmpgk
import Derived.Test.YtoefmdjgnabgfaaGrpipbfodfj
import Derived.Test.YtoefmdjgnabgfaaGrpbdnilmoj
import Derived.Test.YtoefmdjgnabgfaaGrpgpecfoeg
import Derived.Test.YtoefmdjgnabgfaaGrpmamlilom
import Derived.Test.YtoefmdjgnabgfaaGrpgejcaodc
set_option linter.all false
namespace Go.Proofs.Ytoefmdjgnabgfaa
set_option maxRecDepth 100000
set_option maxHeartbeats 6400000
open Go.RowKit Go.Deep
variable {J : World → Prop}
theorem isBad_no {p : Fm} {q : Pq} (HQ : PqOk q) {sh A B : List Int} (hl0 : (A ++ B).length ≤ 100) (hadj : ((q.adj.length : Nat) : Int) = 0) : Ctr Try.prog J 27 [.agg (cFm p), .agg (cPq q), Zc (A ++ B), iv A.length, .any] (bv (Jd.alB A q.bad && (decide (((q.adj.length : Nat) : Int) = 0) || Jd.adV p.top (Jd.adX q) (Jd.adY q) (A ++ B) (Jd.lkF p.top sh (A ++ B).length) (Jd.lkS p.top sh (A ++ B).length)))) := by
 have hl2 : (A ++ B).length = A.length + B.length := List.length_append
 have hqb := HQ.lbad
 have hqa := HQ.ladj
 refine Zy Try.func27 rfl (by intro X hX; simp only [List.mem_cons, List.not_mem_nil, or_false] at hX; rcases hX with rfl | rfl | rfl | rfl | rfl; exact Zx (Yi p); exact Zx (Yt q); exact ZI _; exact .v _; exact (show Plain .any from .any)) (n := 56) rfl (by simp) (fun w0 => ?_)
 refine kW 56 [] [(0, .agg (cFm p)), (1, .agg (cPq q)), (2, Zc (A ++ B)), (3, iv A.length), (4, .any)] (Zb (Za (Z9 rfl (ZT (X := .agg (cFm p)) (k := 1) (.tmp 0) rfl rfl) ⟨I0, T0⟩ T0 rfl (Z9 rfl (ZT (X := .agg (cPq q)) (k := 2) (.tmp 1) rfl rfl) ⟨I0, T0⟩ T0 rfl (pM (aC (.bool false)) (kN 56 [(1, .box 27 (cFm p)), (2, .box 30 (cPq q))] [(2, Zc (A ++ B)), (3, iv A.length), (5, .box 1 0), (6, .box 2 0), (10, bv false)] (Zd (Zb (Zb (Za (oA (fb 3 6 U30 1) I0 ?_)))))))))))
 refine oB (lb (slA 2 cRw q.bad) 16 U28) I0 rfl (oA (Zs (.tmp 17) rfl U28) I0 (pM (YH (.const (.int .i64 0)) (iv 0) rfl) (kN 56 [(1, .box 27 (cFm p)), (2, .box 30 (cPq q))] [(2, Zc (A ++ B)), (3, iv A.length), (5, .box 1 0), (6, .box 2 0), (10, bv false), (17, slA 2 cRw q.bad), (18, iv q.bad.length), (19, iv 0)] (Zd (ZC ?_)))))
 refine Yk (σ := {k : Nat // k ≤ q.bad.length ∧ Jd.upB A q.bad k}) (fun s => (ofL [(1, .box 27 (cFm p)), (2, .box 30 (cPq q))], ofT 56 [(2, Zc (A ++ B)), (3, iv A.length), (5, .box 1 0), (6, .box 2 0), (17, slA 2 cRw q.bad), (18, iv q.bad.length), (19, iv s.1)])) (fun s => q.bad.length - s.1) ⟨0, Nat.zero_le _, Jd.upB_zero _ _⟩ (ZL _ _ rfl (by kernel_rfl) (by kernel_rfl)) (fun s => ?_)
 obtain ⟨k, hk0, hs0⟩ := s
 show ETri J w0 (ofL [(1, .box 27 (cFm p)), (2, .box 30 (cPq q))]) (ofT 56 [(2, Zc (A ++ B)), (3, iv A.length), (5, .box 1 0), (6, .box 2 0), (17, slA 2 cRw q.bad), (18, iv q.bad.length), (19, iv k)]) _
 refine Zb ?_
 by_cases hs1 : ((k : Nat) : Int) < ((q.bad.length : Nat) : Int)
 have hk1 : k < q.bad.length := by omega
 refine Za (oC (Z4 rfl (dT hs1)) I0 I0 (kN 56 [(1, .box 27 (cFm p)), (2, .box 30 (cPq q))] [(2, Zc (A ++ B)), (3, iv A.length), (5, .box 1 0), (6, .box 2 0), (17, slA 2 cRw q.bad), (18, iv q.bad.length), (19, iv k), (20, bv true)] (Zd (Zb (Zu rfl (Zm (Zd (Zb (ZC (Zb (Za ?_)))))))))))
 refine oC (ZA (off := k * 2) (.tmp 17) (.tmp 19) rfl U28 (by kernel_rfl) (by omega) (by omega) rfl) I0 I0 (oA (sp_loadElS (z := 2) (.tmp 21) rfl U53 rfl (by kernel_rfl) (flat_take lenRw q.bad k (by omega)) rfl) I0 (Z9 rfl (Kk (z := .agg #[.slice none 0 0, .int .i64 0]) (k := 3) rfl (by kernel_rfl)) T0 T0 rfl (Z9 rfl (Z7 (T0 := 53) (X := .agg (cRw q.bad[k])) (cs := [.v (.slice none 0 0), iv 0]) (ds := cRw q.bad[k]) (z := 2) (.tmp 12) (.tmp 22) rfl (by kernel_rfl) (by kernel_rfl) (by kernel_rfl) (of_decide_eq_true (by kernel_rfl)) (by kernel_rfl)) ⟨I0, I0, T0⟩ ⟨rfl, T0⟩ rfl (kN 56 [(1, .box 27 (cFm p)), (2, .box 30 (cPq q)), (3, .box 53 (cRw q.bad[k]))] [(2, Zc (A ++ B)), (3, iv A.length), (5, .box 1 0), (6, .box 2 0), (12, .box 3 0), (17, slA 2 cRw q.bad), (18, iv q.bad.length), (19, iv k), (20, bv true)] (Zd (Zb (Za (pM (aC (.int .i64 0)) (kN 56 [(1, .box 27 (cFm p)), (2, .box 30 (cPq q)), (3, .box 53 (cRw q.bad[k]))] [(2, Zc (A ++ B)), (3, iv A.length), (5, .box 1 0), (6, .box 2 0), (12, .box 3 0), (13, iv 0), (17, slA 2 cRw q.bad), (18, iv q.bad.length), (19, iv k), (20, bv true)] (Zd (Zb ?_)))))))))))
 refine Zb (Za (pM (mT 2 (Zc (A ++ B))) (pM (mT 3 (iv A.length)) (oC (sp_sliceSl (l := 0) (h := A.length) (ds := (A.map iv)) (.tmp 23) none (some (.tmp 24)) rfl U24 (by kernel_rfl) [] [(.tmp 24, iv A.length)] (.inl ⟨rfl, rfl, rfl⟩) (.inr ⟨_, _, rfl, rfl⟩) (Nat.zero_le _) (by omega) (by simp)) I0 I0 (oA (Zs (.tmp 25) rfl U24) I0 (pM (YH (.const (.int .i64 0)) (iv 0) rfl) (kN 56 [(1, .box 27 (cFm p)), (2, .box 30 (cPq q)), (3, .box 53 (cRw q.bad[k]))] [(2, Zc (A ++ B)), (3, iv A.length), (5, .box 1 0), (6, .box 2 0), (12, .box 3 0), (13, iv 0), (17, slA 2 cRw q.bad), (18, iv q.bad.length), (19, iv k), (20, bv true), (25, Zc A), (26, iv A.length), (27, iv 0)] (Zd (ZC ?_)))))))))
 refine Yk (σ := {j : Nat // j ≤ A.length}) (fun s => (ofL [(1, .box 27 (cFm p)), (2, .box 30 (cPq q)), (3, .box 53 (cRw q.bad[k]))], ofT 56 [(2, Zc (A ++ B)), (3, iv A.length), (5, .box 1 0), (6, .box 2 0), (12, .box 3 0), (13, iv (Jd.cP (A.take s.1) q.bad[k].1 : Nat)), (17, slA 2 cRw q.bad), (18, iv q.bad.length), (19, iv k), (20, bv true), (25, Zc A), (26, iv A.length), (27, iv s.1)])) (fun s => A.length - s.1) ⟨0, Nat.zero_le _⟩ (ZL _ _ rfl (by kernel_rfl) (by kernel_rfl)) (fun s => ?_)
 obtain ⟨j, hj0⟩ := s
 show ETri J w0 (ofL [(1, .box 27 (cFm p)), (2, .box 30 (cPq q)), (3, .box 53 (cRw q.bad[k]))]) (ofT 56 [(2, Zc (A ++ B)), (3, iv A.length), (5, .box 1 0), (6, .box 2 0), (12, .box 3 0), (13, iv (Jd.cP (A.take j) q.bad[k].1 : Nat)), (17, slA 2 cRw q.bad), (18, iv q.bad.length), (19, iv k), (20, bv true), (25, Zc A), (26, iv A.length), (27, iv j)]) _
 refine Zb ?_
 by_cases hs2 : ((j : Nat) : Int) < ((A.length : Nat) : Int)
 have hj1 : j < A.length := by omega
 have hcp := Jd.cP_le A q.bad[k].1 j
 refine Za (oC (Z4 rfl (dT hs2)) I0 I0 (kN 56 [(1, .box 27 (cFm p)), (2, .box 30 (cPq q)), (3, .box 53 (cRw q.bad[k]))] [(2, Zc (A ++ B)), (3, iv A.length), (5, .box 1 0), (6, .box 2 0), (12, .box 3 0), (13, iv (Jd.cP (A.take j) q.bad[k].1 : Nat)), (17, slA 2 cRw q.bad), (18, iv q.bad.length), (19, iv k), (20, bv true), (25, Zc A), (26, iv A.length), (27, iv j), (28, bv true)] (Zd (Zb (Zu rfl (Zm (Zd (Zb (ZC (Zb (Za ?_)))))))))))
 refine oC (ZA (off := j * 1) (.tmp 25) (.tmp 27) rfl U24 (by kernel_rfl) (by omega) (by omega) rfl) I0 I0 (oA (Zz (X := iv A[j]) (.tmp 29) rfl U3 rfl (Yc A (by omega))) I0 (pM (aT 30 (iv A[j])) (kN 56 [(1, .box 27 (cFm p)), (2, .box 30 (cPq q)), (3, .box 53 (cRw q.bad[k]))] [(2, Zc (A ++ B)), (3, iv A.length), (5, .box 1 0), (6, .box 2 0), (12, .box 3 0), (13, iv (Jd.cP (A.take j) q.bad[k].1 : Nat)), (15, iv A[j]), (17, slA 2 cRw q.bad), (18, iv q.bad.length), (19, iv k), (20, bv true), (25, Zc A), (26, iv A.length), (27, iv j), (28, bv true)] (Zd (Zb ?_)))))
 by_cases hs3 : (decide (A[j] ∈ q.bad[k].1)) = true
 refine Za (oA (fb 0 12 U53 1) I0 (oB (lb (Zc q.bad[k].1) 31 U24) I0 rfl (pM (mT 15 (iv A[j])) (oD (Zj (c := .func 56) (xs := #[.tmp 32, .tmp 33]) [] (Z6 (YE q.bad[k].1 A[j] (HQ.bad _ (List.getElem_mem (by omega))).2.2) hs3) rfl (by kernel_rfl) rfl (Xs := [Zc q.bad[k].1, iv A[j]]) rfl rfl rfl) I0 I0 I0 (kN 56 [(1, .box 27 (cFm p)), (2, .box 30 (cPq q)), (3, .box 53 (cRw q.bad[k]))] [(2, Zc (A ++ B)), (3, iv A.length), (5, .box 1 0), (6, .box 2 0), (12, .box 3 0), (13, iv (Jd.cP (A.take j) q.bad[k].1 : Nat)), (15, iv A[j]), (17, slA 2 cRw q.bad), (18, iv q.bad.length), (19, iv k), (20, bv true), (25, Zc A), (26, iv A.length), (27, iv j), (28, bv true), (34, bv true)] (Zd (Zu rfl (Za (pM (mT 13 (iv (Jd.cP (A.take j) q.bad[k].1 : Nat))) (oC (Yz (c := ((Jd.cP (A.take j) q.bad[k].1 + 1 : Nat) : Int)) rfl (w64 (by omega) (by omega) (by omega))) I0 I0 (pM (aT 36 (iv (Jd.cP (A.take j) q.bad[k].1 + 1 : Nat))) ?_)))))))))))
 refine kN 56 [(1, .box 27 (cFm p)), (2, .box 30 (cPq q)), (3, .box 53 (cRw q.bad[k]))] [(2, Zc (A ++ B)), (3, iv A.length), (5, .box 1 0), (6, .box 2 0), (12, .box 3 0), (13, iv (Jd.cP (A.take j) q.bad[k].1 + 1 : Nat)), (15, iv A[j]), (17, slA 2 cRw q.bad), (18, iv q.bad.length), (19, iv k), (20, bv true), (25, Zc A), (26, iv A.length), (27, iv j), (28, bv true), (34, bv true)] (Yg (Zd (Za (oC (Yz (c := ((j + 1 : Nat) : Int)) rfl (w64 (by omega) (by omega) (by omega))) I0 I0 (pM (mT 37 (iv (j + 1 : Nat))) (kN 56 [(1, .box 27 (cFm p)), (2, .box 30 (cPq q)), (3, .box 53 (cRw q.bad[k]))] [(2, Zc (A ++ B)), (3, iv A.length), (5, .box 1 0), (6, .box 2 0), (12, .box 3 0), (13, iv (Jd.cP (A.take j) q.bad[k].1 + 1 : Nat)), (15, iv A[j]), (17, slA 2 cRw q.bad), (18, iv q.bad.length), (19, iv k), (20, bv true), (25, Zc A), (26, iv A.length), (27, iv (j + 1 : Nat)), (28, bv true), (34, bv true)] (Zd ?_)))))))
 refine ZY ⟨j + 1, by omega⟩ (show A.length - (j + 1) < A.length - j by omega) ?_
 show Wk _ _ (ofL [(1, .box 27 (cFm p)), (2, .box 30 (cPq q)), (3, .box 53 (cRw q.bad[k]))]) (ofT 56 [(2, Zc (A ++ B)), (3, iv A.length), (5, .box 1 0), (6, .box 2 0), (12, .box 3 0), (13, iv (Jd.cP (A.take (j + 1)) q.bad[k].1 : Nat)), (17, slA 2 cRw q.bad), (18, iv q.bad.length), (19, iv k), (20, bv true), (25, Zc A), (26, iv A.length), (27, iv ((j + 1) : Nat))])
 rw [Jd.cP_in (by omega) hs3]
 exact ZL _ _ rfl (by kernel_rfl) (by kernel_rfl)
 have hs3f : (decide (A[j] ∈ q.bad[k].1)) = false := by simpa using hs3
 refine Za (oA (fb 0 12 U53 1) I0 (oB (lb (Zc q.bad[k].1) 31 U24) I0 rfl (pM (mT 15 (iv A[j])) (oD (Zj (c := .func 56) (xs := #[.tmp 32, .tmp 33]) [] (Z6 (YE q.bad[k].1 A[j] (HQ.bad _ (List.getElem_mem (by omega))).2.2) hs3f) rfl (by kernel_rfl) rfl (Xs := [Zc q.bad[k].1, iv A[j]]) rfl rfl rfl) I0 I0 I0 (kN 56 [(1, .box 27 (cFm p)), (2, .box 30 (cPq q)), (3, .box 53 (cRw q.bad[k]))] [(2, Zc (A ++ B)), (3, iv A.length), (5, .box 1 0), (6, .box 2 0), (12, .box 3 0), (13, iv (Jd.cP (A.take j) q.bad[k].1 : Nat)), (15, iv A[j]), (17, slA 2 cRw q.bad), (18, iv q.bad.length), (19, iv k), (20, bv true), (25, Zc A), (26, iv A.length), (27, iv j), (28, bv true), (34, bv false)] (Zd (Zq rfl (Zm (Yg (Zd (Za ?_)))))))))))
 refine oC (Yz (c := ((j + 1 : Nat) : Int)) rfl (w64 (by omega) (by omega) (by omega))) I0 I0 (pM (mT 37 (iv (j + 1 : Nat))) (kN 56 [(1, .box 27 (cFm p)), (2, .box 30 (cPq q)), (3, .box 53 (cRw q.bad[k]))] [(2, Zc (A ++ B)), (3, iv A.length), (5, .box 1 0), (6, .box 2 0), (12, .box 3 0), (13, iv (Jd.cP (A.take j) q.bad[k].1 : Nat)), (15, iv A[j]), (17, slA 2 cRw q.bad), (18, iv q.bad.length), (19, iv k), (20, bv true), (25, Zc A), (26, iv A.length), (27, iv (j + 1 : Nat)), (28, bv true), (34, bv false)] (Zd ?_)))
 refine ZY ⟨j + 1, by omega⟩ (show A.length - (j + 1) < A.length - j by omega) ?_
 show Wk _ _ (ofL [(1, .box 27 (cFm p)), (2, .box 30 (cPq q)), (3, .box 53 (cRw q.bad[k]))]) (ofT 56 [(2, Zc (A ++ B)), (3, iv A.length), (5, .box 1 0), (6, .box 2 0), (12, .box 3 0), (13, iv (Jd.cP (A.take (j + 1)) q.bad[k].1 : Nat)), (17, slA 2 cRw q.bad), (18, iv q.bad.length), (19, iv k), (20, bv true), (25, Zc A), (26, iv A.length), (27, iv ((j + 1) : Nat))])
 rw [Jd.cP_out (by omega) hs3f]
 exact ZL _ _ rfl (by kernel_rfl) (by kernel_rfl)
 refine Za (oC (Z4 rfl (dF hs2)) I0 I0 (kN 56 [(1, .box 27 (cFm p)), (2, .box 30 (cPq q)), (3, .box 53 (cRw q.bad[k]))] [(2, Zc (A ++ B)), (3, iv A.length), (5, .box 1 0), (6, .box 2 0), (12, .box 3 0), (13, iv (Jd.cP (A.take j) q.bad[k].1 : Nat)), (17, slA 2 cRw q.bad), (18, iv q.bad.length), (19, iv k), (20, bv true), (25, Zc A), (26, iv A.length), (27, iv j), (28, bv false)] (Zd (Zb (Zq rfl (Yo (Zv (Zv (t_hit (Zd (Zb ?_)))))))))))
 refine kW 56 [(1, .box 27 (cFm p)), (2, .box 30 (cPq q)), (3, .box 53 (cRw q.bad[k]))] [(2, Zc (A ++ B)), (3, iv A.length), (5, .box 1 0), (6, .box 2 0), (12, .box 3 0), (13, iv (Jd.cP (A.take j) q.bad[k].1 : Nat)), (17, slA 2 cRw q.bad), (18, iv q.bad.length), (19, iv k), (20, bv true), (25, Zc A), (26, iv A.length), (27, iv j), (28, bv false)] ?_
 have hj2 : j = A.length := by omega
 rw [show A.take j = A by rw [hj2, List.take_length]]
 by_cases hs4 : ((Jd.cP A q.bad[k].1 : Nat) : Int) < q.bad[k].2
 refine Za (pM (mT 13 (iv (Jd.cP A q.bad[k].1 : Nat))) (oA (fb 1 12 U53 1) I0 (oB (lb (iv q.bad[k].2) 39 U3) I0 rfl (oC (Z4 rfl (dT hs4)) I0 I0 (kN 56 [(1, .box 27 (cFm p)), (2, .box 30 (cPq q)), (3, .box 53 (cRw q.bad[k]))] [(2, Zc (A ++ B)), (3, iv A.length), (5, .box 1 0), (6, .box 2 0), (12, .box 3 0), (13, iv (Jd.cP A q.bad[k].1 : Nat)), (17, slA 2 cRw q.bad), (18, iv q.bad.length), (19, iv k), (20, bv true), (25, Zc A), (26, iv A.length), (27, iv j), (28, bv false), (41, bv true)] (Zd (Zu rfl (Zb (Za (pM (aC (.bool false)) (Zr ?_)))))))))))
 refine Zd (Zl (Zk (Zh (Zh (Zk (Zh ?_))))))
 refine Zn Try.results27 (.tmp rfl) ?_
 exact congrArg (fun x : Bool => AV.v (.bool x)) ((by rw [Jd.alB_no (by omega) hs4]; rfl))
 refine Za (pM (mT 13 (iv (Jd.cP A q.bad[k].1 : Nat))) (oA (fb 1 12 U53 1) I0 (oB (lb (iv q.bad[k].2) 39 U3) I0 rfl (oC (Z4 rfl (dF hs4)) I0 I0 (kN 56 [(1, .box 27 (cFm p)), (2, .box 30 (cPq q)), (3, .box 53 (cRw q.bad[k]))] [(2, Zc (A ++ B)), (3, iv A.length), (5, .box 1 0), (6, .box 2 0), (12, .box 3 0), (13, iv (Jd.cP A q.bad[k].1 : Nat)), (17, slA 2 cRw q.bad), (18, iv q.bad.length), (19, iv k), (20, bv true), (25, Zc A), (26, iv A.length), (27, iv j), (28, bv false), (41, bv false)] (Zd (Zq rfl (Zm (Yg (Zd (Za ?_)))))))))))
 refine oC (Yz (c := ((k + 1 : Nat) : Int)) rfl (w64 (by omega) (by omega) (by omega))) I0 I0 (pM (mT 42 (iv (k + 1 : Nat))) (kN 56 [(1, .box 27 (cFm p)), (2, .box 30 (cPq q)), (3, .box 53 (cRw q.bad[k]))] [(2, Zc (A ++ B)), (3, iv A.length), (5, .box 1 0), (6, .box 2 0), (12, .box 3 0), (13, iv (Jd.cP A q.bad[k].1 : Nat)), (17, slA 2 cRw q.bad), (18, iv q.bad.length), (19, iv (k + 1 : Nat)), (20, bv true), (25, Zc A), (26, iv A.length), (27, iv j), (28, bv false), (41, bv false)] (Zd ?_)))
 refine ZY ⟨k + 1, by omega, Jd.upB_succ (by omega) hs0 hs4⟩ (show q.bad.length - (k + 1) < q.bad.length - k by omega) ?_
 exact ZL _ _ rfl (by kernel_rfl) (by kernel_rfl)
 refine Za (oC (Z4 rfl (dF hs1)) I0 I0 (kN 56 [(1, .box 27 (cFm p)), (2, .box 30 (cPq q))] [(2, Zc (A ++ B)), (3, iv A.length), (5, .box 1 0), (6, .box 2 0), (17, slA 2 cRw q.bad), (18, iv q.bad.length), (19, iv k), (20, bv false)] (Zd (Zb (Zq rfl (Yo (Zv (Zv (t_hit (Zd (Zb ?_)))))))))))
 refine Za (oA (fb 4 6 U30 1) I0 (oB (lb (Zc q.adj) 43 U24) I0 rfl (oA (Zs (.tmp 44) rfl U24) I0 (oC (ZM rfl (dT hadj)) I0 I0 (pM (mT 46 (bv true)) (qK (qK (qK (qK (qK (qK ?_)))))))))))
 refine qK (pP (Zt (.tmp 47) (.const (.bool true)) (.tmp 54) true (bv true) (.v (.tuple #[])) rfl) (pM (aT 55 (bv true)) (Zr (Zd (Zl ?_)))))
 refine Zn Try.results27 (.tmp rfl) ?_
 exact congrArg (fun x : Bool => AV.v (.bool x)) ((by rw [Jd.alB_yes (by omega) hs0, decide_eq_true hadj]; rfl))
theorem isBad_ad {p : Fm} {q : Pq} (HQ : PqOk q) {sh A B : List Int} (hl0 : (A ++ B).length ≤ 100) (hadj : ¬ ((q.adj.length : Nat) : Int) = 0) (h2a : q.adj.length = 2) (hLk : Jd.LkOk p.top sh (A ++ B).length) : Ctr Try.prog J 27 [.agg (cFm p), .agg (cPq q), Zc (A ++ B), iv A.length, Jd.lkA p.top sh (A ++ B).length] (bv (Jd.alB A q.bad && (decide (((q.adj.length : Nat) : Int) = 0) || Jd.adV p.top (Jd.adX q) (Jd.adY q) (A ++ B) (Jd.lkF p.top sh (A ++ B).length) (Jd.lkS p.top sh (A ++ B).length)))) := by
 have hl2 : (A ++ B).length = A.length + B.length := List.length_append
 have hqb := HQ.lbad
 have hqa := HQ.ladj
 refine Zy Try.func27 rfl (by intro X hX; simp only [List.mem_cons, List.not_mem_nil, or_false] at hX; rcases hX with rfl | rfl | rfl | rfl | rfl; exact Zx (Yi p); exact Zx (Yt q); exact ZI _; exact .v _; exact (show Plain (Jd.lkA p.top sh (A ++ B).length) from .sl (Yl fun X hX => by obtain ⟨j, _, rfl⟩ := List.mem_map.1 hX; exact .v _))) (n := 56) rfl (by simp) (fun w0 => ?_)
 refine kW 56 [] [(0, .agg (cFm p)), (1, .agg (cPq q)), (2, Zc (A ++ B)), (3, iv A.length), (4, Jd.lkA p.top sh (A ++ B).length)] (Zb (Za (Z9 rfl (ZT (X := .agg (cFm p)) (k := 1) (.tmp 0) rfl rfl) ⟨I0, T0⟩ T0 rfl (Z9 rfl (ZT (X := .agg (cPq q)) (k := 2) (.tmp 1) rfl rfl) ⟨I0, T0⟩ T0 rfl (pM (aC (.bool false)) (kN 56 [(1, .box 27 (cFm p)), (2, .box 30 (cPq q))] [(2, Zc (A ++ B)), (3, iv A.length), (4, Jd.lkA p.top sh (A ++ B).length), (5, .box 1 0), (6, .box 2 0), (10, bv false)] (Zd (Zb (Zb (Za (oA (fb 3 6 U30 1) I0 ?_)))))))))))
 refine oB (lb (slA 2 cRw q.bad) 16 U28) I0 rfl (oA (Zs (.tmp 17) rfl U28) I0 (pM (YH (.const (.int .i64 0)) (iv 0) rfl) (kN 56 [(1, .box 27 (cFm p)), (2, .box 30 (cPq q))] [(2, Zc (A ++ B)), (3, iv A.length), (4, Jd.lkA p.top sh (A ++ B).length), (5, .box 1 0), (6, .box 2 0), (10, bv false), (17, slA 2 cRw q.bad), (18, iv q.bad.length), (19, iv 0)] (Zd (ZC ?_)))))
 refine Yk (σ := {k : Nat // k ≤ q.bad.length ∧ Jd.upB A q.bad k}) (fun s => (ofL [(1, .box 27 (cFm p)), (2, .box 30 (cPq q))], ofT 56 [(2, Zc (A ++ B)), (3, iv A.length), (4, Jd.lkA p.top sh (A ++ B).length), (5, .box 1 0), (6, .box 2 0), (17, slA 2 cRw q.bad), (18, iv q.bad.length), (19, iv s.1)])) (fun s => q.bad.length - s.1) ⟨0, Nat.zero_le _, Jd.upB_zero _ _⟩ (ZL _ _ rfl (by kernel_rfl) (by kernel_rfl)) (fun s => ?_)
 obtain ⟨k, hk0, hs0⟩ := s
 show ETri J w0 (ofL [(1, .box 27 (cFm p)), (2, .box 30 (cPq q))]) (ofT 56 [(2, Zc (A ++ B)), (3, iv A.length), (4, Jd.lkA p.top sh (A ++ B).length), (5, .box 1 0), (6, .box 2 0), (17, slA 2 cRw q.bad), (18, iv q.bad.length), (19, iv k)]) _
 refine Zb ?_
 by_cases hs1 : ((k : Nat) : Int) < ((q.bad.length : Nat) : Int)
 have hk1 : k < q.bad.length := by omega
 refine Za (oC (Z4 rfl (dT hs1)) I0 I0 (kN 56 [(1, .box 27 (cFm p)), (2, .box 30 (cPq q))] [(2, Zc (A ++ B)), (3, iv A.length), (4, Jd.lkA p.top sh (A ++ B).length), (5, .box 1 0), (6, .box 2 0), (17, slA 2 cRw q.bad), (18, iv q.bad.length), (19, iv k), (20, bv true)] (Zd (Zb (Zu rfl (Zm (Zd (Zb (ZC (Zb (Za ?_)))))))))))
 refine oC (ZA (off := k * 2) (.tmp 17) (.tmp 19) rfl U28 (by kernel_rfl) (by omega) (by omega) rfl) I0 I0 (oA (sp_loadElS (z := 2) (.tmp 21) rfl U53 rfl (by kernel_rfl) (flat_take lenRw q.bad k (by omega)) rfl) I0 (Z9 rfl (Kk (z := .agg #[.slice none 0 0, .int .i64 0]) (k := 3) rfl (by kernel_rfl)) T0 T0 rfl (Z9 rfl (Z7 (T0 := 53) (X := .agg (cRw q.bad[k])) (cs := [.v (.slice none 0 0), iv 0]) (ds := cRw q.bad[k]) (z := 2) (.tmp 12) (.tmp 22) rfl (by kernel_rfl) (by kernel_rfl) (by kernel_rfl) (of_decide_eq_true (by kernel_rfl)) (by kernel_rfl)) ⟨I0, I0, T0⟩ ⟨rfl, T0⟩ rfl (kN 56 [(1, .box 27 (cFm p)), (2, .box 30 (cPq q)), (3, .box 53 (cRw q.bad[k]))] [(2, Zc (A ++ B)), (3, iv A.length), (4, Jd.lkA p.top sh (A ++ B).length), (5, .box 1 0), (6, .box 2 0), (12, .box 3 0), (17, slA 2 cRw q.bad), (18, iv q.bad.length), (19, iv k), (20, bv true)] (Zd (Zb (Za (pM (aC (.int .i64 0)) (kN 56 [(1, .box 27 (cFm p)), (2, .box 30 (cPq q)), (3, .box 53 (cRw q.bad[k]))] [(2, Zc (A ++ B)), (3, iv A.length), (4, Jd.lkA p.top sh (A ++ B).length), (5, .box 1 0), (6, .box 2 0), (12, .box 3 0), (13, iv 0), (17, slA 2 cRw q.bad), (18, iv q.bad.length), (19, iv k), (20, bv true)] (Zd (Zb ?_)))))))))))
 refine Zb (Za (pM (mT 2 (Zc (A ++ B))) (pM (mT 3 (iv A.length)) (oC (sp_sliceSl (l := 0) (h := A.length) (ds := (A.map iv)) (.tmp 23) none (some (.tmp 24)) rfl U24 (by kernel_rfl) [] [(.tmp 24, iv A.length)] (.inl ⟨rfl, rfl, rfl⟩) (.inr ⟨_, _, rfl, rfl⟩) (Nat.zero_le _) (by omega) (by simp)) I0 I0 (oA (Zs (.tmp 25) rfl U24) I0 (pM (YH (.const (.int .i64 0)) (iv 0) rfl) (kN 56 [(1, .box 27 (cFm p)), (2, .box 30 (cPq q)), (3, .box 53 (cRw q.bad[k]))] [(2, Zc (A ++ B)), (3, iv A.length), (4, Jd.lkA p.top sh (A ++ B).length), (5, .box 1 0), (6, .box 2 0), (12, .box 3 0), (13, iv 0), (17, slA 2 cRw q.bad), (18, iv q.bad.length), (19, iv k), (20, bv true), (25, Zc A), (26, iv A.length), (27, iv 0)] (Zd (ZC ?_)))))))))
 refine Yk (σ := {j : Nat // j ≤ A.length}) (fun s => (ofL [(1, .box 27 (cFm p)), (2, .box 30 (cPq q)), (3, .box 53 (cRw q.bad[k]))], ofT 56 [(2, Zc (A ++ B)), (3, iv A.length), (4, Jd.lkA p.top sh (A ++ B).length), (5, .box 1 0), (6, .box 2 0), (12, .box 3 0), (13, iv (Jd.cP (A.take s.1) q.bad[k].1 : Nat)), (17, slA 2 cRw q.bad), (18, iv q.bad.length), (19, iv k), (20, bv true), (25, Zc A), (26, iv A.length), (27, iv s.1)])) (fun s => A.length - s.1) ⟨0, Nat.zero_le _⟩ (ZL _ _ rfl (by kernel_rfl) (by kernel_rfl)) (fun s => ?_)
 obtain ⟨j, hj0⟩ := s
 show ETri J w0 (ofL [(1, .box 27 (cFm p)), (2, .box 30 (cPq q)), (3, .box 53 (cRw q.bad[k]))]) (ofT 56 [(2, Zc (A ++ B)), (3, iv A.length), (4, Jd.lkA p.top sh (A ++ B).length), (5, .box 1 0), (6, .box 2 0), (12, .box 3 0), (13, iv (Jd.cP (A.take j) q.bad[k].1 : Nat)), (17, slA 2 cRw q.bad), (18, iv q.bad.length), (19, iv k), (20, bv true), (25, Zc A), (26, iv A.length), (27, iv j)]) _
 refine Zb ?_
 by_cases hs2 : ((j : Nat) : Int) < ((A.length : Nat) : Int)
 have hj1 : j < A.length := by omega
 have hcp := Jd.cP_le A q.bad[k].1 j
 refine Za (oC (Z4 rfl (dT hs2)) I0 I0 (kN 56 [(1, .box 27 (cFm p)), (2, .box 30 (cPq q)), (3, .box 53 (cRw q.bad[k]))] [(2, Zc (A ++ B)), (3, iv A.length), (4, Jd.lkA p.top sh (A ++ B).length), (5, .box 1 0), (6, .box 2 0), (12, .box 3 0), (13, iv (Jd.cP (A.take j) q.bad[k].1 : Nat)), (17, slA 2 cRw q.bad), (18, iv q.bad.length), (19, iv k), (20, bv true), (25, Zc A), (26, iv A.length), (27, iv j), (28, bv true)] (Zd (Zb (Zu rfl (Zm (Zd (Zb (ZC (Zb (Za ?_)))))))))))
 refine oC (ZA (off := j * 1) (.tmp 25) (.tmp 27) rfl U24 (by kernel_rfl) (by omega) (by omega) rfl) I0 I0 (oA (Zz (X := iv A[j]) (.tmp 29) rfl U3 rfl (Yc A (by omega))) I0 (pM (aT 30 (iv A[j])) (kN 56 [(1, .box 27 (cFm p)), (2, .box 30 (cPq q)), (3, .box 53 (cRw q.bad[k]))] [(2, Zc (A ++ B)), (3, iv A.length), (4, Jd.lkA p.top sh (A ++ B).length), (5, .box 1 0), (6, .box 2 0), (12, .box 3 0), (13, iv (Jd.cP (A.take j) q.bad[k].1 : Nat)), (15, iv A[j]), (17, slA 2 cRw q.bad), (18, iv q.bad.length), (19, iv k), (20, bv true), (25, Zc A), (26, iv A.length), (27, iv j), (28, bv true)] (Zd (Zb ?_)))))
 by_cases hs3 : (decide (A[j] ∈ q.bad[k].1)) = true
 refine Za (oA (fb 0 12 U53 1) I0 (oB (lb (Zc q.bad[k].1) 31 U24) I0 rfl (pM (mT 15 (iv A[j])) (oD (Zj (c := .func 56) (xs := #[.tmp 32, .tmp 33]) [] (Z6 (YE q.bad[k].1 A[j] (HQ.bad _ (List.getElem_mem (by omega))).2.2) hs3) rfl (by kernel_rfl) rfl (Xs := [Zc q.bad[k].1, iv A[j]]) rfl rfl rfl) I0 I0 I0 (kN 56 [(1, .box 27 (cFm p)), (2, .box 30 (cPq q)), (3, .box 53 (cRw q.bad[k]))] [(2, Zc (A ++ B)), (3, iv A.length), (4, Jd.lkA p.top sh (A ++ B).length), (5, .box 1 0), (6, .box 2 0), (12, .box 3 0), (13, iv (Jd.cP (A.take j) q.bad[k].1 : Nat)), (15, iv A[j]), (17, slA 2 cRw q.bad), (18, iv q.bad.length), (19, iv k), (20, bv true), (25, Zc A), (26, iv A.length), (27, iv j), (28, bv true), (34, bv true)] (Zd (Zu rfl (Za (pM (mT 13 (iv (Jd.cP (A.take j) q.bad[k].1 : Nat))) (oC (Yz (c := ((Jd.cP (A.take j) q.bad[k].1 + 1 : Nat) : Int)) rfl (w64 (by omega) (by omega) (by omega))) I0 I0 (pM (aT 36 (iv (Jd.cP (A.take j) q.bad[k].1 + 1 : Nat))) ?_)))))))))))
 refine kN 56 [(1, .box 27 (cFm p)), (2, .box 30 (cPq q)), (3, .box 53 (cRw q.bad[k]))] [(2, Zc (A ++ B)), (3, iv A.length), (4, Jd.lkA p.top sh (A ++ B).length), (5, .box 1 0), (6, .box 2 0), (12, .box 3 0), (13, iv (Jd.cP (A.take j) q.bad[k].1 + 1 : Nat)), (15, iv A[j]), (17, slA 2 cRw q.bad), (18, iv q.bad.length), (19, iv k), (20, bv true), (25, Zc A), (26, iv A.length), (27, iv j), (28, bv true), (34, bv true)] (Yg (Zd (Za (oC (Yz (c := ((j + 1 : Nat) : Int)) rfl (w64 (by omega) (by omega) (by omega))) I0 I0 (pM (mT 37 (iv (j + 1 : Nat))) (kN 56 [(1, .box 27 (cFm p)), (2, .box 30 (cPq q)), (3, .box 53 (cRw q.bad[k]))] [(2, Zc (A ++ B)), (3, iv A.length), (4, Jd.lkA p.top sh (A ++ B).length), (5, .box 1 0), (6, .box 2 0), (12, .box 3 0), (13, iv (Jd.cP (A.take j) q.bad[k].1 + 1 : Nat)), (15, iv A[j]), (17, slA 2 cRw q.bad), (18, iv q.bad.length), (19, iv k), (20, bv true), (25, Zc A), (26, iv A.length), (27, iv (j + 1 : Nat)), (28, bv true), (34, bv true)] (Zd ?_)))))))
 refine ZY ⟨j + 1, by omega⟩ (show A.length - (j + 1) < A.length - j by omega) ?_
 show Wk _ _ (ofL [(1, .box 27 (cFm p)), (2, .box 30 (cPq q)), (3, .box 53 (cRw q.bad[k]))]) (ofT 56 [(2, Zc (A ++ B)), (3, iv A.length), (4, Jd.lkA p.top sh (A ++ B).length), (5, .box 1 0), (6, .box 2 0), (12, .box 3 0), (13, iv (Jd.cP (A.take (j + 1)) q.bad[k].1 : Nat)), (17, slA 2 cRw q.bad), (18, iv q.bad.length), (19, iv k), (20, bv true), (25, Zc A), (26, iv A.length), (27, iv ((j + 1) : Nat))])
 rw [Jd.cP_in (by omega) hs3]
 exact ZL _ _ rfl (by kernel_rfl) (by kernel_rfl)
 have hs3f : (decide (A[j] ∈ q.bad[k].1)) = false := by simpa using hs3
 refine Za (oA (fb 0 12 U53 1) I0 (oB (lb (Zc q.bad[k].1) 31 U24) I0 rfl (pM (mT 15 (iv A[j])) (oD (Zj (c := .func 56) (xs := #[.tmp 32, .tmp 33]) [] (Z6 (YE q.bad[k].1 A[j] (HQ.bad _ (List.getElem_mem (by omega))).2.2) hs3f) rfl (by kernel_rfl) rfl (Xs := [Zc q.bad[k].1, iv A[j]]) rfl rfl rfl) I0 I0 I0 (kN 56 [(1, .box 27 (cFm p)), (2, .box 30 (cPq q)), (3, .box 53 (cRw q.bad[k]))] [(2, Zc (A ++ B)), (3, iv A.length), (4, Jd.lkA p.top sh (A ++ B).length), (5, .box 1 0), (6, .box 2 0), (12, .box 3 0), (13, iv (Jd.cP (A.take j) q.bad[k].1 : Nat)), (15, iv A[j]), (17, slA 2 cRw q.bad), (18, iv q.bad.length), (19, iv k), (20, bv true), (25, Zc A), (26, iv A.length), (27, iv j), (28, bv true), (34, bv false)] (Zd (Zq rfl (Zm (Yg (Zd (Za ?_)))))))))))
 refine oC (Yz (c := ((j + 1 : Nat) : Int)) rfl (w64 (by omega) (by omega) (by omega))) I0 I0 (pM (mT 37 (iv (j + 1 : Nat))) (kN 56 [(1, .box 27 (cFm p)), (2, .box 30 (cPq q)), (3, .box 53 (cRw q.bad[k]))] [(2, Zc (A ++ B)), (3, iv A.length), (4, Jd.lkA p.top sh (A ++ B).length), (5, .box 1 0), (6, .box 2 0), (12, .box 3 0), (13, iv (Jd.cP (A.take j) q.bad[k].1 : Nat)), (15, iv A[j]), (17, slA 2 cRw q.bad), (18, iv q.bad.length), (19, iv k), (20, bv true), (25, Zc A), (26, iv A.length), (27, iv (j + 1 : Nat)), (28, bv true), (34, bv false)] (Zd ?_)))
 refine ZY ⟨j + 1, by omega⟩ (show A.length - (j + 1) < A.length - j by omega) ?_
 show Wk _ _ (ofL [(1, .box 27 (cFm p)), (2, .box 30 (cPq q)), (3, .box 53 (cRw q.bad[k]))]) (ofT 56 [(2, Zc (A ++ B)), (3, iv A.length), (4, Jd.lkA p.top sh (A ++ B).length), (5, .box 1 0), (6, .box 2 0), (12, .box 3 0), (13, iv (Jd.cP (A.take (j + 1)) q.bad[k].1 : Nat)), (17, slA 2 cRw q.bad), (18, iv q.bad.length), (19, iv k), (20, bv true), (25, Zc A), (26, iv A.length), (27, iv ((j + 1) : Nat))])
 rw [Jd.cP_out (by omega) hs3f]
 exact ZL _ _ rfl (by kernel_rfl) (by kernel_rfl)
 refine Za (oC (Z4 rfl (dF hs2)) I0 I0 (kN 56 [(1, .box 27 (cFm p)), (2, .box 30 (cPq q)), (3, .box 53 (cRw q.bad[k]))] [(2, Zc (A ++ B)), (3, iv A.length), (4, Jd.lkA p.top sh (A ++ B).length), (5, .box 1 0), (6, .box 2 0), (12, .box 3 0), (13, iv (Jd.cP (A.take j) q.bad[k].1 : Nat)), (17, slA 2 cRw q.bad), (18, iv q.bad.length), (19, iv k), (20, bv true), (25, Zc A), (26, iv A.length), (27, iv j), (28, bv false)] (Zd (Zb (Zq rfl (Yo (Zv (Zv (t_hit (Zd (Zb ?_)))))))))))
 refine kW 56 [(1, .box 27 (cFm p)), (2, .box 30 (cPq q)), (3, .box 53 (cRw q.bad[k]))] [(2, Zc (A ++ B)), (3, iv A.length), (4, Jd.lkA p.top sh (A ++ B).length), (5, .box 1 0), (6, .box 2 0), (12, .box 3 0), (13, iv (Jd.cP (A.take j) q.bad[k].1 : Nat)), (17, slA 2 cRw q.bad), (18, iv q.bad.length), (19, iv k), (20, bv true), (25, Zc A), (26, iv A.length), (27, iv j), (28, bv false)] ?_
 have hj2 : j = A.length := by omega
 rw [show A.take j = A by rw [hj2, List.take_length]]
 by_cases hs4 : ((Jd.cP A q.bad[k].1 : Nat) : Int) < q.bad[k].2
 refine Za (pM (mT 13 (iv (Jd.cP A q.bad[k].1 : Nat))) (oA (fb 1 12 U53 1) I0 (oB (lb (iv q.bad[k].2) 39 U3) I0 rfl (oC (Z4 rfl (dT hs4)) I0 I0 (kN 56 [(1, .box 27 (cFm p)), (2, .box 30 (cPq q)), (3, .box 53 (cRw q.bad[k]))] [(2, Zc (A ++ B)), (3, iv A.length), (4, Jd.lkA p.top sh (A ++ B).length), (5, .box 1 0), (6, .box 2 0), (12, .box 3 0), (13, iv (Jd.cP A q.bad[k].1 : Nat)), (17, slA 2 cRw q.bad), (18, iv q.bad.length), (19, iv k), (20, bv true), (25, Zc A), (26, iv A.length), (27, iv j), (28, bv false), (41, bv true)] (Zd (Zu rfl (Zb (Za (pM (aC (.bool false)) (Zr ?_)))))))))))
 refine Zd (Zl (Zk (Zh (Zh (Zk (Zh ?_))))))
 refine Zn Try.results27 (.tmp rfl) ?_
 exact congrArg (fun x : Bool => AV.v (.bool x)) ((by rw [Jd.alB_no (by omega) hs4]; rfl))
 refine Za (pM (mT 13 (iv (Jd.cP A q.bad[k].1 : Nat))) (oA (fb 1 12 U53 1) I0 (oB (lb (iv q.bad[k].2) 39 U3) I0 rfl (oC (Z4 rfl (dF hs4)) I0 I0 (kN 56 [(1, .box 27 (cFm p)), (2, .box 30 (cPq q)), (3, .box 53 (cRw q.bad[k]))] [(2, Zc (A ++ B)), (3, iv A.length), (4, Jd.lkA p.top sh (A ++ B).length), (5, .box 1 0), (6, .box 2 0), (12, .box 3 0), (13, iv (Jd.cP A q.bad[k].1 : Nat)), (17, slA 2 cRw q.bad), (18, iv q.bad.length), (19, iv k), (20, bv true), (25, Zc A), (26, iv A.length), (27, iv j), (28, bv false), (41, bv false)] (Zd (Zq rfl (Zm (Yg (Zd (Za ?_)))))))))))
 refine oC (Yz (c := ((k + 1 : Nat) : Int)) rfl (w64 (by omega) (by omega) (by omega))) I0 I0 (pM (mT 42 (iv (k + 1 : Nat))) (kN 56 [(1, .box 27 (cFm p)), (2, .box 30 (cPq q)), (3, .box 53 (cRw q.bad[k]))] [(2, Zc (A ++ B)), (3, iv A.length), (4, Jd.lkA p.top sh (A ++ B).length), (5, .box 1 0), (6, .box 2 0), (12, .box 3 0), (13, iv (Jd.cP A q.bad[k].1 : Nat)), (17, slA 2 cRw q.bad), (18, iv q.bad.length), (19, iv (k + 1 : Nat)), (20, bv true), (25, Zc A), (26, iv A.length), (27, iv j), (28, bv false), (41, bv false)] (Zd ?_)))
 refine ZY ⟨k + 1, by omega, Jd.upB_succ (by omega) hs0 hs4⟩ (show q.bad.length - (k + 1) < q.bad.length - k by omega) ?_
 exact ZL _ _ rfl (by kernel_rfl) (by kernel_rfl)
 refine Za (oC (Z4 rfl (dF hs1)) I0 I0 (kN 56 [(1, .box 27 (cFm p)), (2, .box 30 (cPq q))] [(2, Zc (A ++ B)), (3, iv A.length), (4, Jd.lkA p.top sh (A ++ B).length), (5, .box 1 0), (6, .box 2 0), (17, slA 2 cRw q.bad), (18, iv q.bad.length), (19, iv k), (20, bv false)] (Zd (Zb (Zq rfl (Yo (Zv (Zv (t_hit (Zd (Zb ?_)))))))))))
 refine Za (oA (fb 4 6 U30 1) I0 (oB (lb (Zc q.adj) 43 U24) I0 rfl (oA (Zs (.tmp 44) rfl U24) I0 (oC (ZM rfl (dF hadj)) I0 I0 (pM (mT 46 (bv false)) (gA (fb 1 5 U27 1) I0 (gB (lb (iv p.top) 48 U3) I0 rfl (gA (fb 4 6 U30 1) I0 (gB (lb (Zc q.adj) 50 U24) I0 rfl (qM (mT 2 (Zc (A ++ B))) (qM (mT 4 (Jd.lkA p.top sh (A ++ B).length)) ?_)))))))))))
 refine t_opG rfl (Zj (c := .func 57) (xs := #[.tmp 49, .tmp 51, .tmp 52, .tmp 53]) [] (hasAdj_c hl0 (by omega) (by omega) hLk) rfl (by kernel_rfl) rfl (Xs := [iv p.top, Zc q.adj, Zc (A ++ B), Jd.lkA p.top sh (A ++ B).length]) rfl rfl rfl) ⟨I0, I0, I0, I0, I0, T0⟩ T0 T0 (pP (Zt (.tmp 47) (.const (.bool true)) (.tmp 54) false (bv true) (bv (Jd.adV p.top (q.adj.getD 0 0) (q.adj.getD 1 0) (A ++ B) (Jd.lkF p.top sh (A ++ B).length) (Jd.lkS p.top sh (A ++ B).length))) rfl) (pM (aT 55 (bv (Jd.adV p.top (q.adj.getD 0 0) (q.adj.getD 1 0) (A ++ B) (Jd.lkF p.top sh (A ++ B).length) (Jd.lkS p.top sh (A ++ B).length)))) (Zr (Zd (Zl ?_)))))
 refine Zn Try.results27 (.tmp rfl) ?_
 exact congrArg (fun x : Bool => AV.v (.bool x)) ((by rw [Jd.alB_yes (by omega) hs0, decide_eq_false hadj, Bool.true_and, Bool.false_or]; rfl))
end Go.Proofs.Ytoefmdjgnabgfaa

namespace Go.Proofs.Ytoefmdjgnabgfaa
set_option maxRecDepth 100000
set_option maxHeartbeats 6400000
open Go.RowKit Go.Deep
variable {J : World → Prop}
theorem Bad_err {p : Fm} (HP : FmOk p) {q : Pq} (HQ : PqOk q) {c : Cf} (HC : Rd.CgOk c) (hn : Jd.prE p q 1 = 0 → Jd.okB p c = false) : Ctr Try.prog J 11 [.agg (cFm p), .agg (cPq q), .agg (Rd.cCg c)] (.tup [bv (Jd.bdR p q c), iv (Jd.bdE p q c)]) := by
 have l1 := HP.lstates
 have l2 := HC.lst
 refine Zy Try.func11 rfl (by intro X hX; simp only [List.mem_cons, List.not_mem_nil, or_false] at hX; rcases hX with rfl | rfl | rfl; exact Zx (Yi p); exact Zx (Yt q); exact Zx (Rd.plain_cg c)) (n := 48) rfl (by simp) (fun w0 => ?_)
 refine kW 48 [] [(0, .agg (cFm p)), (1, .agg (cPq q)), (2, .agg (Rd.cCg c))] (Zb (Za (Z9 rfl (ZT (X := .agg (cFm p)) (k := 1) (.tmp 0) rfl rfl) ⟨I0, T0⟩ T0 rfl (Z9 rfl (ZT (X := .agg (cPq q)) (k := 2) (.tmp 1) rfl rfl) ⟨I0, T0⟩ T0 rfl (Z9 rfl (ZT (X := .agg (Rd.cCg c)) (k := 3) (.tmp 2) rfl rfl) ⟨I0, T0⟩ T0 rfl (pM (aC (.bool false)) (pM (aC (.int .i64 0)) (kN 48 [(1, .box 27 (cFm p)), (2, .box 30 (cPq q)), (3, .box 32 (Rd.cCg c))] [(3, .box 1 0), (4, .box 2 0), (5, .box 3 0), (6, bv false), (7, iv 0)] (Zd (Zb (Zb ?_)))))))))))
 refine Za (oB (Zf (Y := .box 27 (cFm p)) (ds := cFm p) (z := 10) (.tmp 3) rfl U27 rfl (by kernel_rfl) (by decide) (by kernel_rfl) (by kernel_rfl)) I0 rfl (oB (Zf (Y := .box 30 (cPq q)) (ds := cPq q) (z := 6) (.tmp 4) rfl U30 rfl (by kernel_rfl) (by decide) (by kernel_rfl) (by kernel_rfl)) I0 rfl (Z9 rfl (Zj (c := .func 25) (xs := #[.tmp 9, .tmp 10, .const (.int .i64 1)]) [] (propErr_c HP HQ) rfl (by kernel_rfl) rfl (Xs := [.agg (cFm p), .agg (cPq q), iv 1]) rfl rfl rfl) ⟨I0, I0, I0, I0, T0⟩ T0 T0 (pM (aT 11 (iv (Jd.prE p q 1))) (kN 48 [(1, .box 27 (cFm p)), (2, .box 30 (cPq q)), (3, .box 32 (Rd.cCg c))] [(3, .box 1 0), (4, .box 2 0), (5, .box 3 0), (6, bv false), (7, iv 0), (8, iv (Jd.prE p q 1))] (Zd (Zb ?_)))))))
 by_cases hs1 : Jd.prE p q 1 = 0
 refine Za (pM (mT 8 (iv (Jd.prE p q 1))) (oC (Z8 rfl (dT' hs1)) I0 I0 (kN 48 [(1, .box 27 (cFm p)), (2, .box 30 (cPq q)), (3, .box 32 (Rd.cCg c))] [(3, .box 1 0), (4, .box 2 0), (5, .box 3 0), (6, bv false), (7, iv 0), (8, iv (Jd.prE p q 1)), (13, bv false)] (Zd (Zq rfl (Zm (Zd (Zb (Zb ?_)))))))))
 by_cases hs2 : (Ct.plB p c) = true
 refine Za (oB (Zf (Y := .box 27 (cFm p)) (ds := cFm p) (z := 10) (.tmp 3) rfl U27 rfl (by kernel_rfl) (by decide) (by kernel_rfl) (by kernel_rfl)) I0 rfl (oB (Zf (Y := .box 32 (Rd.cCg c)) (ds := Rd.cCg c) (z := 6) (.tmp 5) rfl U32 rfl (by kernel_rfl) (by decide) (by kernel_rfl) (by kernel_rfl)) I0 rfl (oD (Zj (c := .func 22) (xs := #[.tmp 15, .tmp 16]) [] (Z6 (Yx HP HC) hs2) rfl (by kernel_rfl) rfl (Xs := [.agg (cFm p), .agg (Rd.cCg c)]) rfl rfl rfl) I0 I0 I0 (oA (Yb rfl rfl) I0 (pM (mT 18 (bv false)) (gA (fb 1 3 U27 1) I0 (gB (lb (iv p.top) 20 U3) I0 rfl (gC (ZM rfl (dT (Jd.top4 (hn hs1) hs2))) I0 I0 (qM (mT 22 (bv true)) (gA (fb 0 5 U32 1) I0 (gB (lb (Zc c.sh) 24 U24) I0 rfl ?_)))))))))))
 refine gA (fb 1 5 U32 1) I0 (gB (lb (Zc c.st) 26 U24) I0 rfl (gA (Zs (.tmp 27) rfl U24) I0 (gD (Zj (c := .func 26) (xs := #[.tmp 25, .tmp 28]) [] (Z6 (isShapeJ_c HC.sh HC.lsh _) (Jd.shpN (hn hs1) hs2)) rfl (by kernel_rfl) rfl (Xs := [Zc c.sh, iv c.st.length]) rfl rfl rfl) I0 I0 I0 (gA (Yb rfl rfl) I0 (qP (Zt (.tmp 23) (.tmp 30) (.const (.bool false)) true (bv true) (bv false) rfl) (pP (Zt (.tmp 19) (.const (.bool true)) (.tmp 31) false (bv true) (bv true) rfl) (kN 48 [(1, .box 27 (cFm p)), (2, .box 30 (cPq q)), (3, .box 32 (Rd.cCg c))] [(3, .box 1 0), (4, .box 2 0), (5, .box 3 0), (6, bv false), (7, iv 0), (32, bv true)] (Zd (Zu rfl (Zb (Za ?_)))))))))))
 refine pM (aC (.bool false)) (pM (aC (.int .i64 1)) (Zr (Zd (Zl (Zh ?_)))))
 refine Yp Try.results11 (.tmp rfl) (.tmp rfl) ?_
 rw [Jd.bdR_n hs1 (hn hs1), Jd.bdE_n hs1 (hn hs1)]
 exact rfl
 have hs2f : (Ct.plB p c) = false := by simpa using hs2
 refine Za (oB (Zf (Y := .box 27 (cFm p)) (ds := cFm p) (z := 10) (.tmp 3) rfl U27 rfl (by kernel_rfl) (by decide) (by kernel_rfl) (by kernel_rfl)) I0 rfl (oB (Zf (Y := .box 32 (Rd.cCg c)) (ds := Rd.cCg c) (z := 6) (.tmp 5) rfl U32 rfl (by kernel_rfl) (by decide) (by kernel_rfl) (by kernel_rfl)) I0 rfl (oD (Zj (c := .func 22) (xs := #[.tmp 15, .tmp 16]) [] (Z6 (Yx HP HC) hs2f) rfl (by kernel_rfl) rfl (Xs := [.agg (cFm p), .agg (Rd.cCg c)]) rfl rfl rfl) I0 I0 I0 (oA (Yb rfl rfl) I0 (pM (mT 18 (bv true)) (qK (qK (qK (qK (qK (qK ?_)))))))))))
 refine qK (qK (qK (qK (qK (qK (pP (Zt (.tmp 19) (.const (.bool true)) (.tmp 31) true (bv true) (.v (.tuple #[])) rfl) (kN 48 [(1, .box 27 (cFm p)), (2, .box 30 (cPq q)), (3, .box 32 (Rd.cCg c))] [(3, .box 1 0), (4, .box 2 0), (5, .box 3 0), (6, bv false), (7, iv 0), (32, bv true)] (Zd (Zu rfl (Zb (Za ?_)))))))))))
 refine pM (aC (.bool false)) (pM (aC (.int .i64 1)) (Zr (Zd (Zl (Zh ?_)))))
 refine Yp Try.results11 (.tmp rfl) (.tmp rfl) ?_
 rw [Jd.bdR_n hs1 (hn hs1), Jd.bdE_n hs1 (hn hs1)]
 exact rfl
 refine Za (pM (mT 8 (iv (Jd.prE p q 1))) (oC (Z8 rfl (dF' hs1)) I0 I0 (kN 48 [(1, .box 27 (cFm p)), (2, .box 30 (cPq q)), (3, .box 32 (Rd.cCg c))] [(3, .box 1 0), (4, .box 2 0), (5, .box 3 0), (6, bv false), (7, iv 0), (8, iv (Jd.prE p q 1)), (13, bv true)] (Zd (Zu rfl (Zb (Za (pM (mT 8 (iv (Jd.prE p q 1))) (pM (aC (.bool false)) (pM (aT 14 (iv (Jd.prE p q 1))) (Zr ?_)))))))))))
 refine Zd (Zl (Zh ?_))
 refine Yp Try.results11 (.tmp rfl) (.tmp rfl) ?_
 rw [Jd.bdR_p hs1, Jd.bdE_p hs1]
 exact rfl
theorem Bad_no {p : Fm} (HP : FmOk p) {q : Pq} (HQ : PqOk q) {sh A B se fa : List Int} {val : Int} (HC : Rd.CgOk (Ct.two sh A B se fa val)) (hpr : Jd.prE p q 1 = 0) (hok : Jd.okB p (Ct.two sh A B se fa val) = true) (hadj : ((q.adj.length : Nat) : Int) = 0) : Ctr Try.prog J 11 [.agg (cFm p), .agg (cPq q), .agg (Rd.cCg (Ct.two sh A B se fa val))] (.tup [bv (Jd.bdR p q (Ct.two sh A B se fa val)), iv (Jd.bdE p q (Ct.two sh A B se fa val))]) := by
 have hl0 : (A ++ B).length ≤ 100 := HC.lst
 have hl2 : (A ++ B).length = A.length + B.length := List.length_append
 have hpl := Jd.ok_pl hok
 have htop := Jd.top_in (Jd.vp_val (Jd.prE_in hpr).1)
 refine Zy Try.func11 rfl (by intro X hX; simp only [List.mem_cons, List.not_mem_nil, or_false] at hX; rcases hX with rfl | rfl | rfl; exact Zx (Yi p); exact Zx (Yt q); exact Zx (Rd.plain_cg _)) (n := 48) rfl (by simp) (fun w0 => ?_)
 refine kW 48 [] [(0, .agg (cFm p)), (1, .agg (cPq q)), (2, .agg (Rd.cCg (Ct.two sh A B se fa val)))] (Zb (Za (Z9 rfl (ZT (X := .agg (cFm p)) (k := 1) (.tmp 0) rfl rfl) ⟨I0, T0⟩ T0 rfl (Z9 rfl (ZT (X := .agg (cPq q)) (k := 2) (.tmp 1) rfl rfl) ⟨I0, T0⟩ T0 rfl (Z9 rfl (ZT (X := .agg (Rd.cCg (Ct.two sh A B se fa val))) (k := 3) (.tmp 2) rfl rfl) ⟨I0, T0⟩ T0 rfl (pM (aC (.bool false)) (pM (aC (.int .i64 0)) (kN 48 [(1, .box 27 (cFm p)), (2, .box 30 (cPq q)), (3, .box 32 (Rd.cCg (Ct.two sh A B se fa val)))] [(3, .box 1 0), (4, .box 2 0), (5, .box 3 0), (6, bv false), (7, iv 0)] (Zd (Zb (Zb ?_)))))))))))
 refine Za (oB (Zf (Y := .box 27 (cFm p)) (ds := cFm p) (z := 10) (.tmp 3) rfl U27 rfl (by kernel_rfl) (by decide) (by kernel_rfl) (by kernel_rfl)) I0 rfl (oB (Zf (Y := .box 30 (cPq q)) (ds := cPq q) (z := 6) (.tmp 4) rfl U30 rfl (by kernel_rfl) (by decide) (by kernel_rfl) (by kernel_rfl)) I0 rfl (Z9 rfl (Zj (c := .func 25) (xs := #[.tmp 9, .tmp 10, .const (.int .i64 1)]) [] (propErr_c HP HQ) rfl (by kernel_rfl) rfl (Xs := [.agg (cFm p), .agg (cPq q), iv 1]) rfl rfl rfl) ⟨I0, I0, I0, I0, T0⟩ T0 T0 (pM (aT 11 (iv (Jd.prE p q 1))) (kN 48 [(1, .box 27 (cFm p)), (2, .box 30 (cPq q)), (3, .box 32 (Rd.cCg (Ct.two sh A B se fa val)))] [(3, .box 1 0), (4, .box 2 0), (5, .box 3 0), (6, bv false), (7, iv 0), (8, iv (Jd.prE p q 1))] (Zd (Zb (Za (pM (mT 8 (iv (Jd.prE p q 1))) (oC (Z8 rfl (dT' hpr)) I0 I0 (kN 48 [(1, .box 27 (cFm p)), (2, .box 30 (cPq q)), (3, .box 32 (Rd.cCg (Ct.two sh A B se fa val)))] [(3, .box 1 0), (4, .box 2 0), (5, .box 3 0), (6, bv false), (7, iv 0), (8, iv (Jd.prE p q 1)), (13, bv false)] ?_)))))))))))
 refine Zd (Zq rfl (Zm (Zd (Zb (Zb ?_)))))
 by_cases hs1 : p.top = 4
 refine Za (oB (Zf (Y := .box 27 (cFm p)) (ds := cFm p) (z := 10) (.tmp 3) rfl U27 rfl (by kernel_rfl) (by decide) (by kernel_rfl) (by kernel_rfl)) I0 rfl (oB (Zf (Y := .box 32 (Rd.cCg (Ct.two sh A B se fa val))) (ds := Rd.cCg (Ct.two sh A B se fa val)) (z := 6) (.tmp 5) rfl U32 rfl (by kernel_rfl) (by decide) (by kernel_rfl) (by kernel_rfl)) I0 rfl (oD (Zj (c := .func 22) (xs := #[.tmp 15, .tmp 16]) [] (Z6 (Yx HP HC) hpl) rfl (by kernel_rfl) rfl (Xs := [.agg (cFm p), .agg (Rd.cCg (Ct.two sh A B se fa val))]) rfl rfl rfl) I0 I0 I0 (oA (Yb rfl rfl) I0 (pM (mT 18 (bv false)) (gA (fb 1 3 U27 1) I0 (gB (lb (iv p.top) 20 U3) I0 rfl (gC (ZM rfl (dT hs1)) I0 I0 (qM (mT 22 (bv true)) (gA (fb 0 5 U32 1) I0 (gB (lb (Zc sh) 24 U24) I0 rfl ?_)))))))))))
 refine gA (fb 1 5 U32 1) I0 (gB (lb (Zc (A ++ B)) 26 U24) I0 rfl (gA (Zs (.tmp 27) rfl U24) I0 (gD (Zj (c := .func 26) (xs := #[.tmp 25, .tmp 28]) [] (Z6 (isShapeJ_c HC.sh HC.lsh _) (Jd.shpY hok hs1)) rfl (by kernel_rfl) rfl (Xs := [Zc sh, iv ((A ++ B).length : Nat)]) rfl rfl rfl) I0 I0 I0 (gA (Yb rfl rfl) I0 (qP (Zt (.tmp 23) (.tmp 30) (.const (.bool false)) true (bv false) (bv false) rfl) (pP (Zt (.tmp 19) (.const (.bool true)) (.tmp 31) false (bv true) (bv false) rfl) (kN 48 [(1, .box 27 (cFm p)), (2, .box 30 (cPq q)), (3, .box 32 (Rd.cCg (Ct.two sh A B se fa val)))] [(3, .box 1 0), (4, .box 2 0), (5, .box 3 0), (6, bv false), (7, iv 0), (32, bv false)] (Zd (Zq rfl (Zm (Zd ?_)))))))))))
 refine Zb ?_
 refine Yw (dB (Zf (Y := .box 27 (cFm p)) (ds := cFm p) (z := 10) (.tmp 3) rfl U27 rfl (by kernel_rfl) (by decide) (by kernel_rfl) (by kernel_rfl)) I0 rfl (dB (Zf (Y := .box 30 (cPq q)) (ds := cPq q) (z := 6) (.tmp 4) rfl U30 rfl (by kernel_rfl) (by decide) (by kernel_rfl) (by kernel_rfl)) I0 rfl (dA (fb 1 5 U32 1) I0 (dB (lb (Zc (A ++ B)) 35 U24) I0 rfl (dA (fb 2 5 U32 1) I0 (dB (lb (iv A.length) 37 U3) I0 rfl (dA (fb 1 3 U27 1) I0 (dB (lb (iv p.top) 39 U3) I0 rfl (dA (fb 0 5 U32 1) I0 (dB (lb (Zc sh) 41 U24) I0 rfl (dA (fb 1 5 U32 1) I0 (dB (lb (Zc (A ++ B)) 43 U24) I0 rfl (dA (Zs (.tmp 44) rfl U24) I0 (dR (Zj (c := .func 28) (xs := #[.tmp 40, .tmp 42, .tmp 45]) [] (links_any (top := p.top) (sh := sh) (n := (A ++ B).length) HC.sh HC.lsh hl0 (.inr (.inr (.inr ⟨hs1, Jd.shpY hok hs1⟩)))) rfl (by kernel_rfl) rfl (Xs := [iv p.top, Zc sh, iv ((A ++ B).length : Nat)]) rfl rfl rfl) ⟨I0, I0, I0, I0, T0⟩ T0 T0 (dR (Zj (c := .func 27) (xs := #[.tmp 33, .tmp 34, .tmp 36, .tmp 38, .tmp 46]) [] (isBad_no HQ hl0 hadj) rfl (by kernel_rfl) rfl (Xs := [.agg (cFm p), .agg (cPq q), Zc (A ++ B), iv A.length, .any]) rfl rfl rfl) ⟨I0, I0, I0, I0, I0, .inr (.inl rfl), T0⟩ T0 T0 (dM (aT 47 (bv (Jd.alB A q.bad && (decide (((q.adj.length : Nat) : Int) = 0) || Jd.adV p.top (Jd.adX q) (Jd.adY q) (A ++ B) (Jd.lkF p.top sh (A ++ B).length) (Jd.lkS p.top sh (A ++ B).length))))) (dM (aC (.int .i64 0)) (dE ?_)))))))))))))))))) (by kernel_rfl)
 show ETri J w0 _ _ _
 refine Zd (Zl ?_)
 refine Yp Try.results11 (.tmp rfl) (.tmp rfl) ?_
 rw [Jd.bdR_o hpr hok, Jd.bdE_o hpr hok, Jd.bdV_two]
 exact rfl
 refine Za (oB (Zf (Y := .box 27 (cFm p)) (ds := cFm p) (z := 10) (.tmp 3) rfl U27 rfl (by kernel_rfl) (by decide) (by kernel_rfl) (by kernel_rfl)) I0 rfl (oB (Zf (Y := .box 32 (Rd.cCg (Ct.two sh A B se fa val))) (ds := Rd.cCg (Ct.two sh A B se fa val)) (z := 6) (.tmp 5) rfl U32 rfl (by kernel_rfl) (by decide) (by kernel_rfl) (by kernel_rfl)) I0 rfl (oD (Zj (c := .func 22) (xs := #[.tmp 15, .tmp 16]) [] (Z6 (Yx HP HC) hpl) rfl (by kernel_rfl) rfl (Xs := [.agg (cFm p), .agg (Rd.cCg (Ct.two sh A B se fa val))]) rfl rfl rfl) I0 I0 I0 (oA (Yb rfl rfl) I0 (pM (mT 18 (bv false)) (gA (fb 1 3 U27 1) I0 (gB (lb (iv p.top) 20 U3) I0 rfl (gC (ZM rfl (dF hs1)) I0 I0 (qM (mT 22 (bv false)) (qK (qK ?_)))))))))))
 refine qK (qK (qK (qK (qK (qP (Zt (.tmp 23) (.tmp 30) (.const (.bool false)) false (.v (.tuple #[])) (bv false) rfl) (pP (Zt (.tmp 19) (.const (.bool true)) (.tmp 31) false (bv true) (bv false) rfl) (kN 48 [(1, .box 27 (cFm p)), (2, .box 30 (cPq q)), (3, .box 32 (Rd.cCg (Ct.two sh A B se fa val)))] [(3, .box 1 0), (4, .box 2 0), (5, .box 3 0), (6, bv false), (7, iv 0), (32, bv false)] (Zd (Zq rfl (Zm (Zd ?_)))))))))))
 refine Zb ?_
 refine Yw (dB (Zf (Y := .box 27 (cFm p)) (ds := cFm p) (z := 10) (.tmp 3) rfl U27 rfl (by kernel_rfl) (by decide) (by kernel_rfl) (by kernel_rfl)) I0 rfl (dB (Zf (Y := .box 30 (cPq q)) (ds := cPq q) (z := 6) (.tmp 4) rfl U30 rfl (by kernel_rfl) (by decide) (by kernel_rfl) (by kernel_rfl)) I0 rfl (dA (fb 1 5 U32 1) I0 (dB (lb (Zc (A ++ B)) 35 U24) I0 rfl (dA (fb 2 5 U32 1) I0 (dB (lb (iv A.length) 37 U3) I0 rfl (dA (fb 1 3 U27 1) I0 (dB (lb (iv p.top) 39 U3) I0 rfl (dA (fb 0 5 U32 1) I0 (dB (lb (Zc sh) 41 U24) I0 rfl (dA (fb 1 5 U32 1) I0 (dB (lb (Zc (A ++ B)) 43 U24) I0 rfl (dA (Zs (.tmp 44) rfl U24) I0 (dR (Zj (c := .func 28) (xs := #[.tmp 40, .tmp 42, .tmp 45]) [] (links_any (top := p.top) (sh := sh) (n := (A ++ B).length) HC.sh HC.lsh hl0 (by omega)) rfl (by kernel_rfl) rfl (Xs := [iv p.top, Zc sh, iv ((A ++ B).length : Nat)]) rfl rfl rfl) ⟨I0, I0, I0, I0, T0⟩ T0 T0 (dR (Zj (c := .func 27) (xs := #[.tmp 33, .tmp 34, .tmp 36, .tmp 38, .tmp 46]) [] (isBad_no HQ hl0 hadj) rfl (by kernel_rfl) rfl (Xs := [.agg (cFm p), .agg (cPq q), Zc (A ++ B), iv A.length, .any]) rfl rfl rfl) ⟨I0, I0, I0, I0, I0, .inr (.inl rfl), T0⟩ T0 T0 (dM (aT 47 (bv (Jd.alB A q.bad && (decide (((q.adj.length : Nat) : Int) = 0) || Jd.adV p.top (Jd.adX q) (Jd.adY q) (A ++ B) (Jd.lkF p.top sh (A ++ B).length) (Jd.lkS p.top sh (A ++ B).length))))) (dM (aC (.int .i64 0)) (dE ?_)))))))))))))))))) (by kernel_rfl)
 show ETri J w0 _ _ _
 refine Zd (Zl ?_)
 refine Yp Try.results11 (.tmp rfl) (.tmp rfl) ?_
 rw [Jd.bdR_o hpr hok, Jd.bdE_o hpr hok, Jd.bdV_two]
 exact rfl
theorem Bad_ad {p : Fm} (HP : FmOk p) {q : Pq} (HQ : PqOk q) {sh A B se fa : List Int} {val : Int} (HC : Rd.CgOk (Ct.two sh A B se fa val)) (hpr : Jd.prE p q 1 = 0) (hok : Jd.okB p (Ct.two sh A B se fa val) = true) (hadj : ¬ ((q.adj.length : Nat) : Int) = 0) (h2a : q.adj.length = 2) (ht1 : ¬ p.top = 1) (hLk : Jd.LkOk p.top sh (A ++ B).length) : Ctr Try.prog J 11 [.agg (cFm p), .agg (cPq q), .agg (Rd.cCg (Ct.two sh A B se fa val))] (.tup [bv (Jd.bdR p q (Ct.two sh A B se fa val)), iv (Jd.bdE p q (Ct.two sh A B se fa val))]) := by
 have hl0 : (A ++ B).length ≤ 100 := HC.lst
 have hl2 : (A ++ B).length = A.length + B.length := List.length_append
 have hpl := Jd.ok_pl hok
 have htop := Jd.top_in (Jd.vp_val (Jd.prE_in hpr).1)
 refine Zy Try.func11 rfl (by intro X hX; simp only [List.mem_cons, List.not_mem_nil, or_false] at hX; rcases hX with rfl | rfl | rfl; exact Zx (Yi p); exact Zx (Yt q); exact Zx (Rd.plain_cg _)) (n := 48) rfl (by simp) (fun w0 => ?_)
 refine kW 48 [] [(0, .agg (cFm p)), (1, .agg (cPq q)), (2, .agg (Rd.cCg (Ct.two sh A B se fa val)))] (Zb (Za (Z9 rfl (ZT (X := .agg (cFm p)) (k := 1) (.tmp 0) rfl rfl) ⟨I0, T0⟩ T0 rfl (Z9 rfl (ZT (X := .agg (cPq q)) (k := 2) (.tmp 1) rfl rfl) ⟨I0, T0⟩ T0 rfl (Z9 rfl (ZT (X := .agg (Rd.cCg (Ct.two sh A B se fa val))) (k := 3) (.tmp 2) rfl rfl) ⟨I0, T0⟩ T0 rfl (pM (aC (.bool false)) (pM (aC (.int .i64 0)) (kN 48 [(1, .box 27 (cFm p)), (2, .box 30 (cPq q)), (3, .box 32 (Rd.cCg (Ct.two sh A B se fa val)))] [(3, .box 1 0), (4, .box 2 0), (5, .box 3 0), (6, bv false), (7, iv 0)] (Zd (Zb (Zb ?_)))))))))))
 refine Za (oB (Zf (Y := .box 27 (cFm p)) (ds := cFm p) (z := 10) (.tmp 3) rfl U27 rfl (by kernel_rfl) (by decide) (by kernel_rfl) (by kernel_rfl)) I0 rfl (oB (Zf (Y := .box 30 (cPq q)) (ds := cPq q) (z := 6) (.tmp 4) rfl U30 rfl (by kernel_rfl) (by decide) (by kernel_rfl) (by kernel_rfl)) I0 rfl (Z9 rfl (Zj (c := .func 25) (xs := #[.tmp 9, .tmp 10, .const (.int .i64 1)]) [] (propErr_c HP HQ) rfl (by kernel_rfl) rfl (Xs := [.agg (cFm p), .agg (cPq q), iv 1]) rfl rfl rfl) ⟨I0, I0, I0, I0, T0⟩ T0 T0 (pM (aT 11 (iv (Jd.prE p q 1))) (kN 48 [(1, .box 27 (cFm p)), (2, .box 30 (cPq q)), (3, .box 32 (Rd.cCg (Ct.two sh A B se fa val)))] [(3, .box 1 0), (4, .box 2 0), (5, .box 3 0), (6, bv false), (7, iv 0), (8, iv (Jd.prE p q 1))] (Zd (Zb (Za (pM (mT 8 (iv (Jd.prE p q 1))) (oC (Z8 rfl (dT' hpr)) I0 I0 (kN 48 [(1, .box 27 (cFm p)), (2, .box 30 (cPq q)), (3, .box 32 (Rd.cCg (Ct.two sh A B se fa val)))] [(3, .box 1 0), (4, .box 2 0), (5, .box 3 0), (6, bv false), (7, iv 0), (8, iv (Jd.prE p q 1)), (13, bv false)] ?_)))))))))))
 refine Zd (Zq rfl (Zm (Zd (Zb (Zb ?_)))))
 by_cases hs1 : p.top = 4
 refine Za (oB (Zf (Y := .box 27 (cFm p)) (ds := cFm p) (z := 10) (.tmp 3) rfl U27 rfl (by kernel_rfl) (by decide) (by kernel_rfl) (by kernel_rfl)) I0 rfl (oB (Zf (Y := .box 32 (Rd.cCg (Ct.two sh A B se fa val))) (ds := Rd.cCg (Ct.two sh A B se fa val)) (z := 6) (.tmp 5) rfl U32 rfl (by kernel_rfl) (by decide) (by kernel_rfl) (by kernel_rfl)) I0 rfl (oD (Zj (c := .func 22) (xs := #[.tmp 15, .tmp 16]) [] (Z6 (Yx HP HC) hpl) rfl (by kernel_rfl) rfl (Xs := [.agg (cFm p), .agg (Rd.cCg (Ct.two sh A B se fa val))]) rfl rfl rfl) I0 I0 I0 (oA (Yb rfl rfl) I0 (pM (mT 18 (bv false)) (gA (fb 1 3 U27 1) I0 (gB (lb (iv p.top) 20 U3) I0 rfl (gC (ZM rfl (dT hs1)) I0 I0 (qM (mT 22 (bv true)) (gA (fb 0 5 U32 1) I0 (gB (lb (Zc sh) 24 U24) I0 rfl ?_)))))))))))
 refine gA (fb 1 5 U32 1) I0 (gB (lb (Zc (A ++ B)) 26 U24) I0 rfl (gA (Zs (.tmp 27) rfl U24) I0 (gD (Zj (c := .func 26) (xs := #[.tmp 25, .tmp 28]) [] (Z6 (isShapeJ_c HC.sh HC.lsh _) (Jd.shpY hok hs1)) rfl (by kernel_rfl) rfl (Xs := [Zc sh, iv ((A ++ B).length : Nat)]) rfl rfl rfl) I0 I0 I0 (gA (Yb rfl rfl) I0 (qP (Zt (.tmp 23) (.tmp 30) (.const (.bool false)) true (bv false) (bv false) rfl) (pP (Zt (.tmp 19) (.const (.bool true)) (.tmp 31) false (bv true) (bv false) rfl) (kN 48 [(1, .box 27 (cFm p)), (2, .box 30 (cPq q)), (3, .box 32 (Rd.cCg (Ct.two sh A B se fa val)))] [(3, .box 1 0), (4, .box 2 0), (5, .box 3 0), (6, bv false), (7, iv 0), (32, bv false)] (Zd (Zq rfl (Zm (Zd ?_)))))))))))
 refine Zb ?_
 refine Yw (dB (Zf (Y := .box 27 (cFm p)) (ds := cFm p) (z := 10) (.tmp 3) rfl U27 rfl (by kernel_rfl) (by decide) (by kernel_rfl) (by kernel_rfl)) I0 rfl (dB (Zf (Y := .box 30 (cPq q)) (ds := cPq q) (z := 6) (.tmp 4) rfl U30 rfl (by kernel_rfl) (by decide) (by kernel_rfl) (by kernel_rfl)) I0 rfl (dA (fb 1 5 U32 1) I0 (dB (lb (Zc (A ++ B)) 35 U24) I0 rfl (dA (fb 2 5 U32 1) I0 (dB (lb (iv A.length) 37 U3) I0 rfl (dA (fb 1 3 U27 1) I0 (dB (lb (iv p.top) 39 U3) I0 rfl (dA (fb 0 5 U32 1) I0 (dB (lb (Zc sh) 41 U24) I0 rfl (dA (fb 1 5 U32 1) I0 (dB (lb (Zc (A ++ B)) 43 U24) I0 rfl (dA (Zs (.tmp 44) rfl U24) I0 (dR (Zj (c := .func 28) (xs := #[.tmp 40, .tmp 42, .tmp 45]) [] (linksA_c (top := p.top) (sh := sh) (n := (A ++ B).length) HC.sh HC.lsh hl0 (.inr (.inr ⟨hs1, Jd.shpY hok hs1⟩))) rfl (by kernel_rfl) rfl (Xs := [iv p.top, Zc sh, iv ((A ++ B).length : Nat)]) rfl rfl rfl) ⟨I0, I0, I0, I0, T0⟩ T0 T0 (dR (Zj (c := .func 27) (xs := #[.tmp 33, .tmp 34, .tmp 36, .tmp 38, .tmp 46]) [] (isBad_ad HQ hl0 hadj h2a hLk) rfl (by kernel_rfl) rfl (Xs := [.agg (cFm p), .agg (cPq q), Zc (A ++ B), iv A.length, Jd.lkA p.top sh (A ++ B).length]) rfl rfl rfl) ⟨I0, I0, I0, I0, I0, .inr (.inl rfl), T0⟩ T0 T0 (dM (aT 47 (bv (Jd.alB A q.bad && (decide (((q.adj.length : Nat) : Int) = 0) || Jd.adV p.top (Jd.adX q) (Jd.adY q) (A ++ B) (Jd.lkF p.top sh (A ++ B).length) (Jd.lkS p.top sh (A ++ B).length))))) (dM (aC (.int .i64 0)) (dE ?_)))))))))))))))))) (by kernel_rfl)
 show ETri J w0 _ _ _
 refine Zd (Zl ?_)
 refine Yp Try.results11 (.tmp rfl) (.tmp rfl) ?_
 rw [Jd.bdR_o hpr hok, Jd.bdE_o hpr hok, Jd.bdV_two]
 exact rfl
 refine Za (oB (Zf (Y := .box 27 (cFm p)) (ds := cFm p) (z := 10) (.tmp 3) rfl U27 rfl (by kernel_rfl) (by decide) (by kernel_rfl) (by kernel_rfl)) I0 rfl (oB (Zf (Y := .box 32 (Rd.cCg (Ct.two sh A B se fa val))) (ds := Rd.cCg (Ct.two sh A B se fa val)) (z := 6) (.tmp 5) rfl U32 rfl (by kernel_rfl) (by decide) (by kernel_rfl) (by kernel_rfl)) I0 rfl (oD (Zj (c := .func 22) (xs := #[.tmp 15, .tmp 16]) [] (Z6 (Yx HP HC) hpl) rfl (by kernel_rfl) rfl (Xs := [.agg (cFm p), .agg (Rd.cCg (Ct.two sh A B se fa val))]) rfl rfl rfl) I0 I0 I0 (oA (Yb rfl rfl) I0 (pM (mT 18 (bv false)) (gA (fb 1 3 U27 1) I0 (gB (lb (iv p.top) 20 U3) I0 rfl (gC (ZM rfl (dF hs1)) I0 I0 (qM (mT 22 (bv false)) (qK (qK ?_)))))))))))
 refine qK (qK (qK (qK (qK (qP (Zt (.tmp 23) (.tmp 30) (.const (.bool false)) false (.v (.tuple #[])) (bv false) rfl) (pP (Zt (.tmp 19) (.const (.bool true)) (.tmp 31) false (bv true) (bv false) rfl) (kN 48 [(1, .box 27 (cFm p)), (2, .box 30 (cPq q)), (3, .box 32 (Rd.cCg (Ct.two sh A B se fa val)))] [(3, .box 1 0), (4, .box 2 0), (5, .box 3 0), (6, bv false), (7, iv 0), (32, bv false)] (Zd (Zq rfl (Zm (Zd ?_)))))))))))
 refine Zb ?_
 refine Yw (dB (Zf (Y := .box 27 (cFm p)) (ds := cFm p) (z := 10) (.tmp 3) rfl U27 rfl (by kernel_rfl) (by decide) (by kernel_rfl) (by kernel_rfl)) I0 rfl (dB (Zf (Y := .box 30 (cPq q)) (ds := cPq q) (z := 6) (.tmp 4) rfl U30 rfl (by kernel_rfl) (by decide) (by kernel_rfl) (by kernel_rfl)) I0 rfl (dA (fb 1 5 U32 1) I0 (dB (lb (Zc (A ++ B)) 35 U24) I0 rfl (dA (fb 2 5 U32 1) I0 (dB (lb (iv A.length) 37 U3) I0 rfl (dA (fb 1 3 U27 1) I0 (dB (lb (iv p.top) 39 U3) I0 rfl (dA (fb 0 5 U32 1) I0 (dB (lb (Zc sh) 41 U24) I0 rfl (dA (fb 1 5 U32 1) I0 (dB (lb (Zc (A ++ B)) 43 U24) I0 rfl (dA (Zs (.tmp 44) rfl U24) I0 (dR (Zj (c := .func 28) (xs := #[.tmp 40, .tmp 42, .tmp 45]) [] (linksA_c (top := p.top) (sh := sh) (n := (A ++ B).length) HC.sh HC.lsh hl0 (by omega)) rfl (by kernel_rfl) rfl (Xs := [iv p.top, Zc sh, iv ((A ++ B).length : Nat)]) rfl rfl rfl) ⟨I0, I0, I0, I0, T0⟩ T0 T0 (dR (Zj (c := .func 27) (xs := #[.tmp 33, .tmp 34, .tmp 36, .tmp 38, .tmp 46]) [] (isBad_ad HQ hl0 hadj h2a hLk) rfl (by kernel_rfl) rfl (Xs := [.agg (cFm p), .agg (cPq q), Zc (A ++ B), iv A.length, Jd.lkA p.top sh (A ++ B).length]) rfl rfl rfl) ⟨I0, I0, I0, I0, I0, .inr (.inl rfl), T0⟩ T0 T0 (dM (aT 47 (bv (Jd.alB A q.bad && (decide (((q.adj.length : Nat) : Int) = 0) || Jd.adV p.top (Jd.adX q) (Jd.adY q) (A ++ B) (Jd.lkF p.top sh (A ++ B).length) (Jd.lkS p.top sh (A ++ B).length))))) (dM (aC (.int .i64 0)) (dE ?_)))))))))))))))))) (by kernel_rfl)
 show ETri J w0 _ _ _
 refine Zd (Zl ?_)
 refine Yp Try.results11 (.tmp rfl) (.tmp rfl) ?_
 rw [Jd.bdR_o hpr hok, Jd.bdE_o hpr hok, Jd.bdV_two]
 exact rfl
theorem Bad_c {p : Fm} (HP : FmOk p) {q : Pq} (HQ : PqOk q) {c : Cf} (HC : Rd.CgOk c) : Ctr Try.prog J 11 [.agg (cFm p), .agg (cPq q), .agg (Rd.cCg c)] (.tup [bv (Jd.bdR p q c), iv (Jd.bdE p q c)]) := by
  by_cases hpr : Jd.prE p q 1 = 0
  · by_cases hok : Jd.okB p c = true
    · obtain ⟨sh, A, B, se, fa, val, rfl⟩ := Ct.pl_two (Jd.ok_pl hok)
      by_cases hadj : ((q.adj.length : Nat) : Int) = 0
      · exact Bad_no HP HQ HC hpr hok hadj
      have h := Jd.adj_in hpr hadj
      have htop := Jd.top_in (Jd.vp_val (Jd.prE_in hpr).1)
      refine Bad_ad HP HQ HC hpr hok hadj h.2 h.1 ?_
      by_cases h4 : p.top = 4
      · have hs := Jd.shpY hok h4
        unfold isShp at hs
        simp only [Bool.and_eq_true, decide_eq_true_eq] at hs
        obtain ⟨h5, h6⟩ := hs
        have h7 : sh.length = (A ++ B).length := by
          have : ((sh.length : Nat) : Int) = (((A ++ B).length : Nat) : Int) := h5
          omega
        rw [h4, ← h7]
        exact Jd.lk_tree h6
      exact Jd.lk_row (by omega)
    exact Bad_err HP HQ HC fun _ => by simpa using hok
  exact Bad_err HP HQ HC fun h => absurd h hpr
end Go.Proofs.Ytoefmdjgnabgfaa

namespace Go.Proofs.Ytoefmdjgnabgfaa
set_option maxRecDepth 100000
set_option maxHeartbeats 6400000
open Go.RowKit Go.Deep
variable {J : World → Prop}
theorem goal_c {q : Pq} (hg : q.goal.length ≤ 9223372036854775807) {x : Int} : Ctr Try.prog J 59 [iv x, .el ((cPq q)) 0] (bv (!decide (x ∈ q.goal))) := by
 refine Zy Try.func59 rfl (by intro X hX; simp only [List.mem_cons, List.not_mem_nil, or_false] at hX; rcases hX with rfl | rfl; exact .v _; exact .el (Yl (Yt q))) (n := 9) rfl (by simp) (fun w0 => ?_)
 refine kW 9 [] [(0, iv x), (1, .el ((cPq q)) 0)] (Zb (Za (pM (aC (.bool false)) (kN 9 [] [(0, iv x), (1, .el ((cPq q)) 0), (3, bv false)] (Zd (Zb (Za (oA (YT (off' := 5) (.tmp 1) rfl U30 rfl (z := 1) (by kernel_rfl) (by decide) rfl) I0 (oA (Zz (X := Zc q.goal) (.tmp 4) rfl U24 rfl rfl) I0 (pM (mT 0 (iv x)) (oD (Zj (c := .func 56) (xs := #[.tmp 5, .tmp 6]) [] (YE q.goal x hg) rfl (by kernel_rfl) rfl (Xs := [Zc q.goal, iv x]) rfl rfl rfl) I0 I0 I0 ?_)))))))))))
 refine oA (Yb rfl rfl) I0 (pM (aT 8 (bv (!(decide (x ∈ q.goal))))) (Zr (Zd (Zl ?_))))
 refine Zn Try.results59 (.tmp rfl) ?_
 exact rfl
theorem ixGoal_c (xs : List Int) {q : Pq} (hg : q.goal.length ≤ 9223372036854775807) (lx : xs.length ≤ 9223372036854775807) : Ctr Try.prog J 87 [Zc xs, .clo 59 [.el ((cPq q)) 0]] (iv (Rd.ixP xs (fun x => !decide (x ∈ q.goal)))) := by
 refine Zy Try.func87 rfl (by intro X hX; simp only [List.mem_cons, List.not_mem_nil, or_false] at hX; rcases hX with rfl | rfl; exact ZI _; exact .clo (fun j hj => match j, hj with | 0, _ => .el (Yl (Yt q)))) (n := 19) rfl (by simp) (fun w0 => ?_)
 refine kW 19 [] [(0, Zc xs), (1, .clo 59 [.el ((cPq q)) 0])] (Zb (Za (pM (aC (.int .i64 0)) (kN 19 [] [(0, Zc xs), (1, .clo 59 [.el ((cPq q)) 0]), (4, iv 0)] (Zd (Zb (Zb (Za (pM (mT 0 (Zc xs)) (oA (Zs (.tmp 6) rfl U24) I0 (pM (YH (.const (.int .i64 0)) (iv 0) rfl) ?_)))))))))))
 refine kN 19 [] [(0, Zc xs), (1, .clo 59 [.el ((cPq q)) 0]), (4, iv 0), (7, iv xs.length), (8, iv 0)] (Zd (ZC ?_))
 refine Yk (σ := {k : Nat // k ≤ xs.length ∧ Rd.noP xs (fun x => !decide (x ∈ q.goal)) k}) (fun s => (ofL [], ofT 19 [(0, Zc xs), (1, .clo 59 [.el ((cPq q)) 0]), (7, iv xs.length), (8, iv s.1)])) (fun s => xs.length - s.1) ⟨0, Nat.zero_le _, Rd.noP_zero _ _⟩ (ZL [] _ rfl (by kernel_rfl) (by kernel_rfl)) (fun s => ?_)
 obtain ⟨k, hk0, hs0⟩ := s
 show ETri J w0 (ofL []) (ofT 19 [(0, Zc xs), (1, .clo 59 [.el ((cPq q)) 0]), (7, iv xs.length), (8, iv k)]) _
 refine Zb ?_
 by_cases hs1 : ((k : Nat) : Int) < ((xs.length : Nat) : Int)
 refine Za (oC (Z4 rfl (dT hs1)) I0 I0 (kN 19 [] [(0, Zc xs), (1, .clo 59 [.el ((cPq q)) 0]), (7, iv xs.length), (8, iv k), (9, bv true)] (Zd (Zb (Zu rfl (Zm (Zd (Zb (ZC (Zb (Za ?_)))))))))))
 refine pM (mT 8 (iv k)) (pM (aT 10 (iv k)) (kN 19 [] [(0, Zc xs), (1, .clo 59 [.el ((cPq q)) 0]), (5, iv k), (7, iv xs.length), (8, iv k), (9, bv true)] (Zd (Zb ?_))))
 by_cases hs2 : (!decide (xs[k] ∈ q.goal)) = true
 refine Za (pM (mT 1 (.clo 59 [.el ((cPq q)) 0])) (pM (mT 0 (Zc xs)) (pM (mT 5 (iv k)) (oC (ZA (off := k * 1) (.tmp 12) (.tmp 13) rfl U24 (by kernel_rfl) (by omega) (by omega) rfl) I0 I0 (oA (Zz (X := iv xs[k]) (.tmp 14) rfl U3 rfl (Yc xs (by omega))) I0 (oC (sp_callClo (c := .tmp 11) (xs := #[.tmp 15]) (Cs := [.el ((cPq q)) 0]) [] (Z6 (goal_c hg) hs2) rfl (by kernel_rfl) rfl (Xs := [iv xs[k]]) rfl rfl rfl rfl rfl) I0 I0 (kN 19 [] [(0, Zc xs), (1, .clo 59 [.el ((cPq q)) 0]), (5, iv k), (7, iv xs.length), (8, iv k), (9, bv true), (16, bv true)] (Zd (Zu rfl (Zb (Za ?_)))))))))))
 refine pM (mT 5 (iv k)) (pM (aT 17 (iv k)) (Zr (Zd (Zl (Zk (Zh (Zh (Zk (Zh ?_)))))))))
 refine Zn Try.results87 (.tmp rfl) ?_
 exact congrArg (fun x : Int => AV.v (.int .i64 x)) ((Rd.ixP_at (by omega) hs0 hs2).symm)
 have hs2f : (!decide (xs[k] ∈ q.goal)) = false := by simpa using hs2
 refine Za (pM (mT 1 (.clo 59 [.el ((cPq q)) 0])) (pM (mT 0 (Zc xs)) (pM (mT 5 (iv k)) (oC (ZA (off := k * 1) (.tmp 12) (.tmp 13) rfl U24 (by kernel_rfl) (by omega) (by omega) rfl) I0 I0 (oA (Zz (X := iv xs[k]) (.tmp 14) rfl U3 rfl (Yc xs (by omega))) I0 (oC (sp_callClo (c := .tmp 11) (xs := #[.tmp 15]) (Cs := [.el ((cPq q)) 0]) [] (Z6 (goal_c hg) hs2f) rfl (by kernel_rfl) rfl (Xs := [iv xs[k]]) rfl rfl rfl rfl rfl) I0 I0 (kN 19 [] [(0, Zc xs), (1, .clo 59 [.el ((cPq q)) 0]), (5, iv k), (7, iv xs.length), (8, iv k), (9, bv true), (16, bv false)] (Zd (Zq rfl (Zm (Yg ?_)))))))))))
 refine Zd (Za (oC (Yz (c := ((k + 1 : Nat) : Int)) rfl (w64 (by omega) (by omega) (by omega))) I0 I0 (pM (mT 18 (iv (k + 1 : Nat))) (kN 19 [] [(0, Zc xs), (1, .clo 59 [.el ((cPq q)) 0]), (5, iv k), (7, iv xs.length), (8, iv (k + 1 : Nat)), (9, bv true), (16, bv false)] (Zd ?_)))))
 refine ZY ⟨k + 1, by omega, Rd.noP_succ (by omega) hs0 hs2f⟩ (show xs.length - (k + 1) < xs.length - k by omega) ?_
 exact ZL [] _ rfl (by kernel_rfl) (by kernel_rfl)
 refine Za (oC (Z4 rfl (dF hs1)) I0 I0 (kN 19 [] [(0, Zc xs), (1, .clo 59 [.el ((cPq q)) 0]), (7, iv xs.length), (8, iv k), (9, bv false)] (Zd (Zb (Zq rfl (Yo (Zv (Zv (t_hit (Zd (Zb ?_)))))))))))
 refine Za (pM (aC (.int .i64 (-1))) (Zr (Zd (Zl ?_))))
 refine Zn Try.results87 (.tmp rfl) ?_
 exact congrArg (fun x : Int => AV.v (.int .i64 x)) ((Rd.ixP_none (k := k) (by omega) hs0).symm)
theorem hasGoal_c (xs : List Int) {q : Pq} (hg : q.goal.length ≤ 9223372036854775807) (lx : xs.length ≤ 9223372036854775807) : Ctr Try.prog J 58 [Zc xs, .clo 59 [.el ((cPq q)) 0]] (bv (xs.any (fun x => !decide (x ∈ q.goal)))) := by
 refine Zy Try.func58 rfl (by intro X hX; simp only [List.mem_cons, List.not_mem_nil, or_false] at hX; rcases hX with rfl | rfl; exact ZI _; exact .clo (fun j hj => match j, hj with | 0, _ => .el (Yl (Yt q)))) (n := 9) rfl (by simp) (fun w0 => ?_)
 refine kW 9 [] [(0, Zc xs), (1, .clo 59 [.el ((cPq q)) 0])] (Zb (Za (pM (aC (.bool false)) (kN 9 [] [(0, Zc xs), (1, .clo 59 [.el ((cPq q)) 0]), (4, bv false)] (Zd (Zb (Za (pM (mT 0 (Zc xs)) (pM (mT 1 (.clo 59 [.el ((cPq q)) 0])) (oD (Zj (c := .func 87) (xs := #[.tmp 5, .tmp 6]) [] (ixGoal_c xs hg lx) rfl (by kernel_rfl) rfl (Xs := [Zc xs, .clo 59 [.el ((cPq q)) 0]]) rfl rfl rfl) I0 I0 I0 (oC (sp_geq rfl rfl) I0 I0 ?_)))))))))))
 refine pM (aT 8 (bv (decide (0 ≤ (Rd.ixP xs (fun x => !decide (x ∈ q.goal))))))) (Zr (Zd (Zl ?_)))
 refine Zn Try.results58 (.tmp rfl) ?_
 exact congrArg (fun x : Bool => AV.v (.bool x)) (Rd.anyP_ix xs (fun x => !decide (x ∈ q.goal)))
theorem isReached_c (xs : List Int) {q : Pq} (hg : q.goal.length ≤ 9223372036854775807) (lx : xs.length ≤ 9223372036854775807) : Ctr Try.prog J 29 [.agg (cPq q), Zc xs] (bv (Jd.glB xs q.goal)) := by
 refine Zy Try.func29 rfl (by intro X hX; simp only [List.mem_cons, List.not_mem_nil, or_false] at hX; rcases hX with rfl | rfl; exact Zx (Yt q); exact ZI _) (n := 9) rfl (by simp) (fun w0 => ?_)
 refine kW 9 [] [(0, .agg (cPq q)), (1, Zc xs)] (Zb (Za (Z9 rfl (ZT (X := .agg (cPq q)) (k := 1) (.tmp 0) rfl rfl) ⟨I0, T0⟩ T0 rfl (pM (aC (.bool false)) (kN 9 [(1, .box 30 (cPq q))] [(1, Zc xs), (2, .box 1 0), (4, bv false)] (Zd (Zb (Za (pM (mT 1 (Zc xs)) (oA (sp_makeFunc (xs := #[.tmp 2]) (Xs := [.box 1 0]) rfl rfl) I0 (Z9 rfl (Zj (c := .func 58) (xs := #[.tmp 5, .tmp 6]) [(1, .box 30 (cPq q))] (hasGoal_c xs hg lx) rfl (by kernel_rfl) rfl (Xs := [Zc xs, .clo 59 [.box 1 0]]) rfl rfl rfl) ⟨I0, I0, I0, T0⟩ ⟨rfl, T0⟩ T0 ?_)))))))))))
 refine oA (Yb rfl rfl) I0 (pM (aT 8 (bv (!(xs.any (fun x => !decide (x ∈ q.goal)))))) (Zr (Zd (Zl ?_))))
 refine Zn Try.results29 (.tmp rfl) ?_
 exact rfl
theorem Reached_err {p : Fm} (HP : FmOk p) {q : Pq} (HQ : PqOk q) {c : Cf} (HC : Rd.CgOk c) (hn : Jd.prE p q 2 = 0 → Ct.plB p c = false) : Ctr Try.prog J 12 [.agg (cFm p), .agg (cPq q), .agg (Rd.cCg c)] (.tup [bv (Jd.rcR p q c), iv (Jd.rcE p q c)]) := by
 have l1 := HP.lstates
 have l2 := HC.lst
 refine Zy Try.func12 rfl (by intro X hX; simp only [List.mem_cons, List.not_mem_nil, or_false] at hX; rcases hX with rfl | rfl | rfl; exact Zx (Yi p); exact Zx (Yt q); exact Zx (Rd.plain_cg c)) (n := 26) rfl (by simp) (fun w0 => ?_)
 refine kW 26 [] [(0, .agg (cFm p)), (1, .agg (cPq q)), (2, .agg (Rd.cCg c))] (Zb (Za (Z9 rfl (ZT (X := .agg (cFm p)) (k := 1) (.tmp 0) rfl rfl) ⟨I0, T0⟩ T0 rfl (Z9 rfl (ZT (X := .agg (cPq q)) (k := 2) (.tmp 1) rfl rfl) ⟨I0, T0⟩ T0 rfl (Z9 rfl (ZT (X := .agg (Rd.cCg c)) (k := 3) (.tmp 2) rfl rfl) ⟨I0, T0⟩ T0 rfl (pM (aC (.bool false)) (pM (aC (.int .i64 0)) (kN 26 [(1, .box 27 (cFm p)), (2, .box 30 (cPq q)), (3, .box 32 (Rd.cCg c))] [(3, .box 1 0), (4, .box 2 0), (5, .box 3 0), (6, bv false), (7, iv 0)] (Zd (Zb (Zb ?_)))))))))))
 refine Za (oB (Zf (Y := .box 27 (cFm p)) (ds := cFm p) (z := 10) (.tmp 3) rfl U27 rfl (by kernel_rfl) (by decide) (by kernel_rfl) (by kernel_rfl)) I0 rfl (oB (Zf (Y := .box 30 (cPq q)) (ds := cPq q) (z := 6) (.tmp 4) rfl U30 rfl (by kernel_rfl) (by decide) (by kernel_rfl) (by kernel_rfl)) I0 rfl (Z9 rfl (Zj (c := .func 25) (xs := #[.tmp 9, .tmp 10, .const (.int .i64 2)]) [] (propErr_c HP HQ) rfl (by kernel_rfl) rfl (Xs := [.agg (cFm p), .agg (cPq q), iv 2]) rfl rfl rfl) ⟨I0, I0, I0, I0, T0⟩ T0 T0 (pM (aT 11 (iv (Jd.prE p q 2))) (kN 26 [(1, .box 27 (cFm p)), (2, .box 30 (cPq q)), (3, .box 32 (Rd.cCg c))] [(3, .box 1 0), (4, .box 2 0), (5, .box 3 0), (6, bv false), (7, iv 0), (8, iv (Jd.prE p q 2))] (Zd (Zb ?_)))))))
 by_cases hs1 : Jd.prE p q 2 = 0
 refine Za (pM (mT 8 (iv (Jd.prE p q 2))) (oC (Z8 rfl (dT' hs1)) I0 I0 (kN 26 [(1, .box 27 (cFm p)), (2, .box 30 (cPq q)), (3, .box 32 (Rd.cCg c))] [(3, .box 1 0), (4, .box 2 0), (5, .box 3 0), (6, bv false), (7, iv 0), (8, iv (Jd.prE p q 2)), (13, bv false)] (Zd (Zq rfl (Zm (Zd (Zb (Zb (Za (oB (Zf (Y := .box 27 (cFm p)) (ds := cFm p) (z := 10) (.tmp 3) rfl U27 rfl (by kernel_rfl) (by decide) (by kernel_rfl) (by kernel_rfl)) I0 rfl ?_)))))))))))
 refine oB (Zf (Y := .box 32 (Rd.cCg c)) (ds := Rd.cCg c) (z := 6) (.tmp 5) rfl U32 rfl (by kernel_rfl) (by decide) (by kernel_rfl) (by kernel_rfl)) I0 rfl (oD (Zj (c := .func 22) (xs := #[.tmp 15, .tmp 16]) [] (Z6 (Yx HP HC) (hn hs1)) rfl (by kernel_rfl) rfl (Xs := [.agg (cFm p), .agg (Rd.cCg c)]) rfl rfl rfl) I0 I0 I0 (oA (Yb rfl rfl) I0 (kN 26 [(2, .box 30 (cPq q)), (3, .box 32 (Rd.cCg c))] [(4, .box 2 0), (5, .box 3 0), (6, bv false), (7, iv 0), (18, bv true)] (Zd (Zu rfl (Zb (Za (pM (aC (.bool false)) (pM (aC (.int .i64 1)) (Zr (Zd ?_)))))))))))
 refine Zl (Zh ?_)
 refine Yp Try.results12 (.tmp rfl) (.tmp rfl) ?_
 rw [Jd.rcR_n hs1 (hn hs1), Jd.rcE_n hs1 (hn hs1)]
 exact rfl
 refine Za (pM (mT 8 (iv (Jd.prE p q 2))) (oC (Z8 rfl (dF' hs1)) I0 I0 (kN 26 [(1, .box 27 (cFm p)), (2, .box 30 (cPq q)), (3, .box 32 (Rd.cCg c))] [(3, .box 1 0), (4, .box 2 0), (5, .box 3 0), (6, bv false), (7, iv 0), (8, iv (Jd.prE p q 2)), (13, bv true)] (Zd (Zu rfl (Zb (Za (pM (mT 8 (iv (Jd.prE p q 2))) (pM (aC (.bool false)) (pM (aT 14 (iv (Jd.prE p q 2))) (Zr ?_)))))))))))
 refine Zd (Zl (Zh ?_))
 refine Yp Try.results12 (.tmp rfl) (.tmp rfl) ?_
 rw [Jd.rcR_p hs1, Jd.rcE_p hs1]
 exact rfl
theorem Reached_ok {p : Fm} (HP : FmOk p) {q : Pq} (HQ : PqOk q) {sh A B se fa : List Int} {val : Int} (HC : Rd.CgOk (Ct.two sh A B se fa val)) (hpr : Jd.prE p q 2 = 0) (hpl : Ct.plB p (Ct.two sh A B se fa val) = true) : Ctr Try.prog J 12 [.agg (cFm p), .agg (cPq q), .agg (Rd.cCg (Ct.two sh A B se fa val))] (.tup [bv (Jd.rcR p q (Ct.two sh A B se fa val)), iv (Jd.rcE p q (Ct.two sh A B se fa val))]) := by
 have hl0 : (A ++ B).length ≤ 100 := HC.lst
 have hl2 : (A ++ B).length = A.length + B.length := List.length_append
 refine Zy Try.func12 rfl (by intro X hX; simp only [List.mem_cons, List.not_mem_nil, or_false] at hX; rcases hX with rfl | rfl | rfl; exact Zx (Yi p); exact Zx (Yt q); exact Zx (Rd.plain_cg _)) (n := 26) rfl (by simp) (fun w0 => ?_)
 refine kW 26 [] [(0, .agg (cFm p)), (1, .agg (cPq q)), (2, .agg (Rd.cCg (Ct.two sh A B se fa val)))] (Zb (Za (Z9 rfl (ZT (X := .agg (cFm p)) (k := 1) (.tmp 0) rfl rfl) ⟨I0, T0⟩ T0 rfl (Z9 rfl (ZT (X := .agg (cPq q)) (k := 2) (.tmp 1) rfl rfl) ⟨I0, T0⟩ T0 rfl (Z9 rfl (ZT (X := .agg (Rd.cCg (Ct.two sh A B se fa val))) (k := 3) (.tmp 2) rfl rfl) ⟨I0, T0⟩ T0 rfl (pM (aC (.bool false)) (pM (aC (.int .i64 0)) (kN 26 [(1, .box 27 (cFm p)), (2, .box 30 (cPq q)), (3, .box 32 (Rd.cCg (Ct.two sh A B se fa val)))] [(3, .box 1 0), (4, .box 2 0), (5, .box 3 0), (6, bv false), (7, iv 0)] (Zd (Zb (Zb ?_)))))))))))
 refine Za (oB (Zf (Y := .box 27 (cFm p)) (ds := cFm p) (z := 10) (.tmp 3) rfl U27 rfl (by kernel_rfl) (by decide) (by kernel_rfl) (by kernel_rfl)) I0 rfl (oB (Zf (Y := .box 30 (cPq q)) (ds := cPq q) (z := 6) (.tmp 4) rfl U30 rfl (by kernel_rfl) (by decide) (by kernel_rfl) (by kernel_rfl)) I0 rfl (Z9 rfl (Zj (c := .func 25) (xs := #[.tmp 9, .tmp 10, .const (.int .i64 2)]) [] (propErr_c HP HQ) rfl (by kernel_rfl) rfl (Xs := [.agg (cFm p), .agg (cPq q), iv 2]) rfl rfl rfl) ⟨I0, I0, I0, I0, T0⟩ T0 T0 (pM (aT 11 (iv (Jd.prE p q 2))) (kN 26 [(1, .box 27 (cFm p)), (2, .box 30 (cPq q)), (3, .box 32 (Rd.cCg (Ct.two sh A B se fa val)))] [(3, .box 1 0), (4, .box 2 0), (5, .box 3 0), (6, bv false), (7, iv 0), (8, iv (Jd.prE p q 2))] (Zd (Zb (Za (pM (mT 8 (iv (Jd.prE p q 2))) (oC (Z8 rfl (dT' hpr)) I0 I0 (kN 26 [(1, .box 27 (cFm p)), (2, .box 30 (cPq q)), (3, .box 32 (Rd.cCg (Ct.two sh A B se fa val)))] [(3, .box 1 0), (4, .box 2 0), (5, .box 3 0), (6, bv false), (7, iv 0), (8, iv (Jd.prE p q 2)), (13, bv false)] ?_)))))))))))
 refine Zd (Zq rfl (Zm (Zd (Zb (Zb (Za (oB (Zf (Y := .box 27 (cFm p)) (ds := cFm p) (z := 10) (.tmp 3) rfl U27 rfl (by kernel_rfl) (by decide) (by kernel_rfl) (by kernel_rfl)) I0 rfl (oB (Zf (Y := .box 32 (Rd.cCg (Ct.two sh A B se fa val))) (ds := Rd.cCg (Ct.two sh A B se fa val)) (z := 6) (.tmp 5) rfl U32 rfl (by kernel_rfl) (by decide) (by kernel_rfl) (by kernel_rfl)) I0 rfl (oD (Zj (c := .func 22) (xs := #[.tmp 15, .tmp 16]) [] (Z6 (Yx HP HC) hpl) rfl (by kernel_rfl) rfl (Xs := [.agg (cFm p), .agg (Rd.cCg (Ct.two sh A B se fa val))]) rfl rfl rfl) I0 I0 I0 (oA (Yb rfl rfl) I0 (kN 26 [(2, .box 30 (cPq q)), (3, .box 32 (Rd.cCg (Ct.two sh A B se fa val)))] [(4, .box 2 0), (5, .box 3 0), (6, bv false), (7, iv 0), (18, bv false)] ?_)))))))))))
 refine Zd (Zq rfl (Zm (Zd (Zb ?_))))
 refine Yw (dB (Zf (Y := .box 30 (cPq q)) (ds := cPq q) (z := 6) (.tmp 4) rfl U30 rfl (by kernel_rfl) (by decide) (by kernel_rfl) (by kernel_rfl)) I0 rfl (dA (fb 1 5 U32 1) I0 (dB (lb (Zc (A ++ B)) 20 U24) I0 rfl (dA (fb 2 5 U32 1) I0 (dB (lb (iv A.length) 22 U3) I0 rfl (dC (sp_sliceSl (l := 0) (h := A.length) (ds := (A.map iv)) (.tmp 21) none (some (.tmp 23)) rfl U24 (by kernel_rfl) [] [(.tmp 23, iv A.length)] (.inl ⟨rfl, rfl, rfl⟩) (.inr ⟨_, _, rfl, rfl⟩) (Nat.zero_le _) (by omega) (by simp)) I0 I0 (dD (Zj (c := .func 29) (xs := #[.tmp 19, .tmp 24]) [] (isReached_c A HQ.lgoal (by omega)) rfl (by kernel_rfl) rfl (Xs := [.agg (cPq q), Zc A]) rfl rfl rfl) I0 I0 I0 (dM (aT 25 (bv (Jd.glB A q.goal))) (dM (aC (.int .i64 0)) (dE ?_)))))))))) (by kernel_rfl)
 show ETri J w0 _ _ _
 refine Zd (Zl ?_)
 refine Yp Try.results12 (.tmp rfl) (.tmp rfl) ?_
 rw [Jd.rc_two hpr hpl, Jd.rcE_o hpr hpl]
 exact rfl
theorem Reached_c {p : Fm} (HP : FmOk p) {q : Pq} (HQ : PqOk q) {c : Cf} (HC : Rd.CgOk c) : Ctr Try.prog J 12 [.agg (cFm p), .agg (cPq q), .agg (Rd.cCg c)] (.tup [bv (Jd.rcR p q c), iv (Jd.rcE p q c)]) := by
  by_cases hpr : Jd.prE p q 2 = 0
  · by_cases hok : Ct.plB p c = true
    · obtain ⟨sh, A, B, se, fa, val, rfl⟩ := Ct.pl_two hok
      exact Reached_ok HP HQ HC hpr hok
    exact Reached_err HP HQ HC fun _ => by simpa using hok
  exact Reached_err HP HQ HC fun h => absurd h hpr
end Go.Proofs.Ytoefmdjgnabgfaa

namespace Go.Proofs.Ytoefmdjgnabgfaa
open Go.RowKit Go.Deep Go.ChangeShapes Go.WideShapes Go.ChangeAt Go.Joins
theorem Y7 : Try.prog.cellsOf 3 = 1 := by kernel_rfl
theorem zcells_ints : Try.prog.cellsOf 24 = 1 := by kernel_rfl
set_option maxRecDepth 100000 in
theorem zint_of_trod {H : Type} {enc : TypeId × Value → H} {w : World} {base : Nat} {sp : Nat → Bool} {held : Bool} {n : Nat} {v : Value} {x : DataW H × List MemPlace} (h : DataW.trod enc Try.prog w base sp held n 3 [v] = some x) : ∃ c, v = .int .i64 c ∧ I64 c := by
  obtain ⟨c, e1, _, e3⟩ := DataW.trod_int Try.underlying3 h
  simp at e1
  exact ⟨c, e1, I64.of_wf e3⟩
end Go.Proofs.Ytoefmdjgnabgfaa

namespace Go.Proofs.Ytoefmdjgnabgfaa
open Go.RowKit Go.Deep Go.ChangeShapes Go.WideShapes Go.ChangeAt Go.Joins
theorem cells_cfg : Try.prog.cellsOf 32 = 6 := by kernel_rfl
set_option maxRecDepth 100000 in
theorem cfg_of_trod {H : Type} {enc : TypeId × Value → H} {w : World} {base : Nat} {sp : Nat → Bool} {held : Bool} {n : Nat} {cs : List Value} {x : DataW H × List MemPlace} (h : DataW.trod enc Try.prog w base sp held n 32 cs = some x) :
    ∃ u0 xs0 u1 xs1 c2 u3 xs3 u4 xs4 c5, cs = [u0, u1, .int .i64 c2, u3, u4, .int .i64 c5] ∧ IsInts 0 w u0 xs0 ∧ IsInts 0 w u1 xs1 ∧ I64 c2 ∧ IsInts 0 w u3 xs3 ∧ IsInts 0 w u4 xs4 ∧ I64 c5 := by
  obtain ⟨ys, m, _, _, hlen, _, hf⟩ := DataW.trod_struct Try.underlying32 h
  rw [cells_cfg] at hlen
  match cs, hlen with
  | [v0, v1, v2, v3, v4, v5], _ =>
    have h0 : DataW.trod enc Try.prog w base sp held m 24 (([v0, v1, v2, v3, v4, v5].drop 0).take (Try.prog.cellsOf 24)) = ys[0]? := hf 0 _ rfl
    rw [zcells_ints] at h0
    simp only [List.drop_zero, List.take_succ_cons, List.take_zero] at h0
    have h1 : DataW.trod enc Try.prog w base sp held m 24 (([v0, v1, v2, v3, v4, v5].drop 1).take (Try.prog.cellsOf 24)) = ys[1]? := hf 1 _ rfl
    rw [zcells_ints] at h1
    simp only [List.drop_succ_cons, List.drop_zero, List.take_succ_cons, List.take_zero] at h1
    have h2 : DataW.trod enc Try.prog w base sp held m 3 (([v0, v1, v2, v3, v4, v5].drop 2).take (Try.prog.cellsOf 3)) = ys[2]? := hf 2 _ rfl
    rw [Y7] at h2
    simp only [List.drop_succ_cons, List.drop_zero, List.take_succ_cons, List.take_zero] at h2
    have h3 : DataW.trod enc Try.prog w base sp held m 24 (([v0, v1, v2, v3, v4, v5].drop 3).take (Try.prog.cellsOf 24)) = ys[3]? := hf 3 _ rfl
    rw [zcells_ints] at h3
    simp only [List.drop_succ_cons, List.drop_zero, List.take_succ_cons, List.take_zero] at h3
    have h4 : DataW.trod enc Try.prog w base sp held m 24 (([v0, v1, v2, v3, v4, v5].drop 4).take (Try.prog.cellsOf 24)) = ys[4]? := hf 4 _ rfl
    rw [zcells_ints] at h4
    simp only [List.drop_succ_cons, List.drop_zero, List.take_succ_cons, List.take_zero] at h4
    have h5 : DataW.trod enc Try.prog w base sp held m 3 (([v0, v1, v2, v3, v4, v5].drop 5).take (Try.prog.cellsOf 3)) = ys[5]? := hf 5 _ rfl
    rw [Y7] at h5
    simp only [List.drop_succ_cons, List.drop_zero, List.take_succ_cons, List.take_zero] at h5
    have hx : ∀ i, i < 6 → ∃ y, ys[i]? = some y := fun i hi => ⟨ys[i]'(by simp at *; omega), List.getElem?_eq_getElem _⟩
    obtain ⟨y0, e0⟩ := hx 0 (by omega)
    rw [e0] at h0
    obtain ⟨xs0, q0⟩ := ZN Try.underlying24 Try.underlying3 Y7 h0
    obtain ⟨y1, e1⟩ := hx 1 (by omega)
    rw [e1] at h1
    obtain ⟨xs1, q1⟩ := ZN Try.underlying24 Try.underlying3 Y7 h1
    obtain ⟨y2, e2⟩ := hx 2 (by omega)
    rw [e2] at h2
    obtain ⟨c2, rfl, q2⟩ := zint_of_trod h2
    obtain ⟨y3, e3⟩ := hx 3 (by omega)
    rw [e3] at h3
    obtain ⟨xs3, q3⟩ := ZN Try.underlying24 Try.underlying3 Y7 h3
    obtain ⟨y4, e4⟩ := hx 4 (by omega)
    rw [e4] at h4
    obtain ⟨xs4, q4⟩ := ZN Try.underlying24 Try.underlying3 Y7 h4
    obtain ⟨y5, e5⟩ := hx 5 (by omega)
    rw [e5] at h5
    obtain ⟨c5, rfl, q5⟩ := zint_of_trod h5
    exact ⟨v0, xs0, v1, xs1, c2, v3, xs3, v4, xs4, c5, rfl, q0, q1, q2, q3, q4, q5⟩
set_option maxRecDepth 100000 in
theorem arg_cfg {H : Type} {enc : TypeId × Value → H} {w : World} {r : Reach} {b0 : Nat} {v : Value} {d : DataW H} {p : List MemPlace} (hv : Value.okWide Try.prog w r b0 32 v) (h : DataW.Trod enc Try.prog w 0 (fun _ => true) true 32 v d p) :
    ∃ u0 xs0 u1 xs1 c2 u3 xs3 u4 xs4 c5, v = .agg #[u0, u1, .int .i64 c2, u3, u4, .int .i64 c5] ∧ IsInts 0 w u0 xs0 ∧ IsInts 0 w u1 xs1 ∧ I64 c2 ∧ IsInts 0 w u3 xs3 ∧ IsInts 0 w u4 xs4 ∧ I64 c5 := by
  obtain ⟨cs, rfl, _⟩ := okWide_struct Try.underlying32 hv
  obtain ⟨fuel, hf⟩ := h
  obtain ⟨u0, xs0, u1, xs1, c2, u3, xs3, u4, xs4, c5, e, q⟩ := cfg_of_trod hf
  have e2 : cs = #[u0, u1, .int .i64 c2, u3, u4, .int .i64 c5] := by obtain ⟨l⟩ := cs; simp [Value.cells] at e; simpa using e
  exact ⟨u0, xs0, u1, xs1, c2, u3, xs3, u4, xs4, c5, by rw [e2], q⟩
end Go.Proofs.Ytoefmdjgnabgfaa

namespace Go.Proofs.Ytoefmdjgnabgfaa
open Go.RowKit Go.Deep Go.ChangeShapes Go.WideShapes Go.ChangeAt Go.Joins
end Go.Proofs.Ytoefmdjgnabgfaa

namespace Go.Proofs.Ytoefmdjgnabgfaa
open Go.RowKit Go.Deep
def wideCf (q : Cf) : Bool := decide (100 < q.sh.length) || decide (100 < q.st.length) || decide (100 < q.se.length) || decide (100 < q.fa.length)
set_option maxHeartbeats 800000 in
theorem Wide_any {lo : Nat} {w : World} {v : Value} {q : Cf} (h : IsCf lo w v q) :
    Calls Try.prog 7 #[v] w fun e w' => e = .returned (.bool (wideCf q)) ∧ Below w.heap.size w w' := by
  obtain ⟨u0, u1, u3, u4, rfl, h0, h1, _, h3, h4, _⟩ := h
  have E : Hid (wideCf q = (decide (100 < q.sh.length) || decide (100 < q.st.length) || decide (100 < q.se.length) || decide (100 < q.fa.length))) := (rfl : wideCf q = _)
  have l0 : q.sh.length ≤ 9223372036854775807 := by obtain ⟨_, _, _, hh, hm, _⟩ := h0; unfold maxLen at hm; omega
  obtain ⟨a0, c0, rfl⟩ := h0.shape
  have l1 : q.st.length ≤ 9223372036854775807 := by obtain ⟨_, _, _, hh, hm, _⟩ := h1; unfold maxLen at hm; omega
  obtain ⟨a1, c1, rfl⟩ := h1.shape
  have l3 : q.se.length ≤ 9223372036854775807 := by obtain ⟨_, _, _, hh, hm, _⟩ := h3; unfold maxLen at hm; omega
  obtain ⟨a3, c3, rfl⟩ := h3.shape
  have l4 : q.fa.length ≤ 9223372036854775807 := by obtain ⟨_, _, _, hh, hm, _⟩ := h4; unfold maxLen at hm; omega
  obtain ⟨a4, c4, rfl⟩ := h4.shape
  clear h0 h1 h3 h4
  by_cases t0 : 100 < q.sh.length
  · have i0 : (100 : Int) < ((q.sh.length : Nat) : Int) := by omega
    go_enter Try.func7, Try.ntmps7
    go_wp2_with fail
    go_ret
    exact ⟨Zi (by rw [E.out, decide_eq_true t0]; simp), Ze _ _⟩
  have i0 : ¬ (100 : Int) < ((q.sh.length : Nat) : Int) := by omega
  by_cases t1 : 100 < q.st.length
  · have i1 : (100 : Int) < ((q.st.length : Nat) : Int) := by omega
    go_enter Try.func7, Try.ntmps7
    go_wp2_with fail
    go_ret
    exact ⟨Zi (by rw [E.out, decide_eq_true t1]; simp), Ze _ _⟩
  have i1 : ¬ (100 : Int) < ((q.st.length : Nat) : Int) := by omega
  by_cases t3 : 100 < q.se.length
  · have i3 : (100 : Int) < ((q.se.length : Nat) : Int) := by omega
    go_enter Try.func7, Try.ntmps7
    go_wp2_with fail
    go_ret
    exact ⟨Zi (by rw [E.out, decide_eq_true t3]; simp), Ze _ _⟩
  have i3 : ¬ (100 : Int) < ((q.se.length : Nat) : Int) := by omega
  by_cases t4 : 100 < q.fa.length
  · have i4 : (100 : Int) < ((q.fa.length : Nat) : Int) := by omega
    go_enter Try.func7, Try.ntmps7
    go_wp2_with fail
    go_ret
    exact ⟨Zi (by rw [E.out, decide_eq_true t4]; simp), Ze _ _⟩
  have i4 : ¬ (100 : Int) < ((q.fa.length : Nat) : Int) := by omega
  go_enter Try.func7, Try.ntmps7
  go_wp2_with fail
  go_ret
  exact ⟨Zi (by rw [E.out, decide_eq_false t0, decide_eq_false t1, decide_eq_false t3, decide_eq_false t4]; simp), Ze _ _⟩
end Go.Proofs.Ytoefmdjgnabgfaa

namespace Go.Proofs.Ytoefmdjgnabgfaa
open Go.RowKit Go.Deep
end Go.Proofs.Ytoefmdjgnabgfaa

namespace Go.Proofs.Ytoefmdjgnabgfaa
theorem cmpI_anti : ∀ (xs ys : List Int), cmpI ys xs = -cmpI xs ys
  | [], [] => rfl
  | [], _ :: _ => rfl
  | _ :: _, [] => rfl
  | x :: xs, y :: ys => by
    simp only [cmpI]
    by_cases h1 : x < y
    · rw [if_neg (by omega), if_pos h1, if_pos h1]; rfl
    by_cases h2 : y < x
    · rw [if_pos h2, if_neg h1, if_pos h2]
    rw [if_neg h2, if_neg h1, if_neg h1, if_neg h2]; exact cmpI_anti xs ys
theorem cmpN_vals (x y : Int) : (cmpN x y = -1 ∧ x < y) ∨ (cmpN x y = 0 ∧ x = y) ∨ (cmpN x y = 1 ∧ y < x) := by
  unfold cmpN
  split
  · exact .inl ⟨rfl, by assumption⟩
  split
  · exact .inr (.inr ⟨rfl, by assumption⟩)
  exact .inr (.inl ⟨rfl, by omega⟩)
theorem cmpN_anti (x y : Int) : cmpN y x = -cmpN x y := by
  have := cmpN_vals x y; have := cmpN_vals y x; omega
theorem orL_neg : ∀ xs : List Int, orL (xs.map (- ·)) = -orL xs
  | [] => rfl
  | x :: xs => by
    simp only [List.map_cons, orL, orL_neg xs]
    by_cases h : x = 0
    · rw [if_pos h, if_pos (by omega)]
    rw [if_neg h, if_neg (by omega)]
end Go.Proofs.Ytoefmdjgnabgfaa

namespace Go.Proofs.Ytoefmdjgnabgfaa
open Go.RowKit Go.Deep
namespace Rd
section
variable {J : World → Prop} {F ok : Nat → Prop} {w : World} {lo : Nat}
structure CgIn (c : Cf) : Prop where
  sh : InOk c.sh
  st : InOk c.st
  se : InOk c.se
  fa : InOk c.fa
  cor : I64 c.cor
  val : I64 c.val
theorem cf_in {v : Value} {c : Cf} (h : IsCf lo w v c) : CgIn c := by
  obtain ⟨_, _, _, _, _, h0, h1, h2, h3, h4, h5⟩ := h
  exact ⟨h0.ok, h1.ok, h3.ok, h4.ok, h2, h5⟩
theorem cf_pu (hok : ∀ b, lo ≤ b → b < w.heap.size → ok b) {v : Value} {c : Cf} (h : IsCf lo w v c) : Pu F w ok (.agg (cCg c)) v := by
  obtain ⟨u0, u1, u3, u4, rfl, h0, h1, _, h3, h4, _⟩ := h
  refine .agg rfl fun j hj => ?_
  match j, hj with
  | 0, _ => exact YC hok h0
  | 1, _ => exact YC hok h1
  | 2, _ => exact .v _
  | 3, _ => exact YC hok h3
  | 4, _ => exact YC hok h4
  | 5, _ => exact .v _
theorem cf_of {v : Value} {c : Cf} (H : CgIn c) (h : Pu F w ok (.agg (cCg c)) v) : IsCf 0 w v c := by
  obtain ⟨vs, rfl, hl, hv⟩ := agg_cells h
  match vs, hl, hv with
  | [v0, v1, v2, v3, v4, v5], _, hv =>
    have e2 := (hv 2 (by simp [cCg])).v_inv
    have e5 := (hv 5 (by simp [cCg])).v_inv
    simp only [List.getD_cons_succ, List.getD_cons_zero] at e2 e5
    subst e2 e5
    exact ⟨v0, v1, v3, v4, rfl, Ya H.sh (fun _ _ => Nat.zero_le _) (hv 0 (by simp [cCg])), Ya H.st (fun _ _ => Nat.zero_le _) (hv 1 (by simp [cCg])), H.cor, Ya H.se (fun _ _ => Nat.zero_le _) (hv 3 (by simp [cCg])), Ya H.fa (fun _ _ => Nat.zero_le _) (hv 4 (by simp [cCg])), H.val⟩
theorem Wide_c {c : Cf} (H : CgIn c) : Ctr Try.prog J 7 [.agg (cCg c)] (bv (wideCf c)) := ctr1 fun w v _ h => (Wide_any (cf_of H h)).mono fun _ _ => ret_sc
theorem cmpCf_same (c : Cf) : cmpCf c c = 0 := by
  have h : cmpCf c c = -cmpCf c c := by
    conv => lhs; unfold cmpCf
    unfold cmpCf
    rw [← orL_neg]
    simp only [List.map_cons, List.map_nil]
    rw [← cmpI_anti c.sh c.sh, ← cmpI_anti c.st c.st, ← cmpI_anti c.se c.se, ← cmpI_anti c.fa c.fa, ← cmpN_anti c.cor c.cor, ← cmpN_anti c.val c.val]
  omega
theorem cg_ok {c : Cf} (H : CgIn c) (h : wideCf c = false) : CgOk c := by
  unfold wideCf at h
  simp only [Bool.or_eq_false_iff, decide_eq_false_iff_not] at h
  exact ⟨H.sh, H.st, H.se, H.fa, by omega, by omega, by omega, by omega⟩
end
end Rd
end Go.Proofs.Ytoefmdjgnabgfaa

namespace Go.Proofs.Ytoefmdjgnabgfaa
open Go.RowKit Go.Deep
namespace Jd
theorem any_perm {l l' : List Int} (h : l.Perm l') (f : Int → Bool) : l.any f = l'.any f := by
  rw [Bool.eq_iff_iff, List.any_eq_true, List.any_eq_true]
  exact ⟨fun ⟨x, h1, h2⟩ => ⟨x, h.mem_iff.1 h1, h2⟩, fun ⟨x, h1, h2⟩ => ⟨x, h.mem_iff.2 h1, h2⟩⟩
theorem gsn {L : List Int} {i j : Nat} {a : Int} (h : i ≠ j) : (L.set i a).getD j 0 = L.getD j 0 := by
  rw [List.getD_eq_getElem?_getD, List.getElem?_set, if_neg h, ← List.getD_eq_getElem?_getD]
theorem bump_comm (L : List Int) (x y : Int) : Ct.bump (Ct.bump L x) y = Ct.bump (Ct.bump L y) x := by
  unfold Ct.bump
  by_cases e : x.toNat = y.toNat
  · rw [e]
  rw [gsn e, gsn (Ne.symm e), List.set_comm _ _ e]
theorem cnt_perm {S : Nat} {xs ys : List Int} (h : xs.Perm ys) : Ct.cnt S xs = Ct.cnt S ys := h.foldl_eq' (fun _ _ _ _ z => bump_comm z _ _) _
theorem srt_srt (A : List Int) : Ct.srt (Ct.srt A) = Ct.srt A :=
  (Ct.srt_eq (List.Perm.refl _) fun a b h hb => List.pairwise_iff_getElem.1 (Ct.srt_pw A) a b (by omega) hb h).symm
theorem both_perm (A B : List Int) : (Ct.srt A ++ Ct.srt B).Perm (A ++ B) := (Ct.srt_perm A).append (Ct.srt_perm B)
theorem bel_perm {A B : List Int} {m : Int} : Rd.belB (Ct.srt A ++ Ct.srt B) m = Rd.belB (A ++ B) m := by
  unfold Rd.belB
  rw [any_perm (both_perm A B)]
theorem cn_eq {p : Fm} {sh A B se fa : List Int} {val : Int} (h : valE p = 0) (hp : Ct.plB p (Ct.two sh A B se fa val) = true) :
    Ct.cnC p (Ct.two sh A B se fa val) = if p.top = 1 then Ct.two sh (Ct.srt A) (Ct.srt B) se fa val else Ct.two sh A B se fa val := by
  rw [Ct.cnC_o h hp]
  unfold Ct.srtP
  split
  · unfold Ct.two; rw [Ct.srt_len]
  rfl
theorem e_in {p : Fm} {c : Cf} (h : Ct.ctE p c = 0) : valE p = 0 ∧ Ct.plB p c = true := by
  by_cases h2 : valE p = 0 ∧ Ct.plB p c = true
  · exact h2
  exact absurd h (Ct.ctE_ne h2)
section
variable {p : Fm} {c : Cf}
theorem cn_all (h : Ct.ctE p c = 0) : Ct.plB p (Ct.cnC p c) = true ∧ Ct.cnC p (Ct.cnC p c) = Ct.cnC p c ∧ Ct.ctL p (Ct.cnC p c) = Ct.ctL p c ∧
    (∀ q : Pq, bdE p q (Ct.cnC p c) = bdE p q c) ∧ (∀ q : Pq, bdR p q (Ct.cnC p c) = bdR p q c) ∧ (∀ q : Pq, rcE p q (Ct.cnC p c) = rcE p q c) ∧ (∀ q : Pq, rcR p q (Ct.cnC p c) = rcR p q c) := by
  obtain ⟨hv, hp⟩ := e_in h
  obtain ⟨sh, A, B, se, fa, val, rfl⟩ := Ct.pl_two hp
  have e := cn_eq hv hp
  by_cases ht : p.top = 1
  · rw [if_pos ht] at e
    have hp2 : Ct.plB p (Ct.two sh (Ct.srt A) (Ct.srt B) se fa val) = true := by rw [Ct.two_pl, bel_perm, ← Ct.two_pl (sh := sh) (se := se) (fa := fa) (val := val)]; exact hp
    have ok : okB p (Ct.two sh (Ct.srt A) (Ct.srt B) se fa val) = okB p (Ct.two sh A B se fa val) := by
      unfold okB
      rw [hp, hp2, decide_eq_false (by omega : ¬ p.top = 4)]
      rfl
    have be : ∀ q : Pq, bdE p q (Ct.two sh (Ct.srt A) (Ct.srt B) se fa val) = bdE p q (Ct.two sh A B se fa val) := fun q => by unfold bdE; rw [ok]
    have re : ∀ q : Pq, rcE p q (Ct.two sh (Ct.srt A) (Ct.srt B) se fa val) = rcE p q (Ct.two sh A B se fa val) := fun q => by unfold rcE; rw [hp, hp2]
    rw [e]
    refine ⟨hp2, ?_, ?_, be, fun q => ?_, re, fun q => ?_⟩
    · rw [cn_eq hv hp2, if_pos ht, srt_srt, srt_srt]
    · rw [Ct.ctL_o hv hp2, Ct.ctL_o hv hp, cnt_perm (Ct.srt_perm A)]
    · unfold bdR
      rw [be]
      split
      · rename_i h0
        have hpr : prE p q 1 = 0 := by
          by_cases h1 : prE p q 1 = 0
          · exact h1
          rw [bdE_p h1] at h0; exact h0
        have h2 : ((q.adj.length : Nat) : Int) = 0 := by
          by_cases h3 : ((q.adj.length : Nat) : Int) = 0
          · exact h3
          exact absurd ht (adj_in hpr h3).1
        rw [bdV_two, bdV_two, decide_eq_true h2, Bool.true_or, Bool.true_or]
        have hc : ∀ l, cP (Ct.srt A) l = cP A l := fun l => List.Perm.countP_eq _ (Ct.srt_perm A)
        congr 1
        unfold alB
        simp only [hc]
      rfl
    unfold rcR
    rw [re]
    split
    · unfold Ct.two glB
      dsimp only
      rw [Int.toNat_natCast, Int.toNat_natCast, List.take_left' rfl, List.take_left' rfl, any_perm (Ct.srt_perm A)]
    rfl
  rw [if_neg ht] at e
  rw [e]
  exact ⟨hp, e, rfl, fun _ => rfl, fun _ => rfl, fun _ => rfl, fun _ => rfl⟩
theorem cn_e (h : Ct.ctE p c = 0) : Ct.ctE p (Ct.cnC p c) = 0 := Ct.ctE_o (e_in h).1 (cn_all h).1
theorem cn_len (h : ¬ Ct.ctE p c = 0) : (((Ct.cnC p c).st.length : Nat) : Int) = 0 := by rw [Ct.cnC_n h]; rfl
theorem cn_ok (H : Rd.CgOk c) (HI : Rd.CgIn (Ct.cnC p c)) : Rd.CgOk (Ct.cnC p c) := by
  refine ⟨HI.sh, HI.st, HI.se, HI.fa, ?_, ?_, ?_, ?_⟩
  all_goals unfold Ct.cnC
  all_goals split
  · exact H.lsh
  · simp
  · dsimp only
    rw [Ct.srtP_len, List.length_take, List.length_drop]
    have := H.lst
    omega
  · simp
  · exact H.lse
  · simp
  · exact H.lfa
  simp
end
end Jd
end Go.Proofs.Ytoefmdjgnabgfaa
