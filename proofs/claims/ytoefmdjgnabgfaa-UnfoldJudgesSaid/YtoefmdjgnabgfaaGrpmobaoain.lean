import Derived.Test.YtoefmdjgnabgfaaProg
import Derived.ChangeArms
import Derived.Test.YtoefmdjgnabgfaaGrpgkjcjiip
import Derived.Test.YtoefmdjgnabgfaaGrpcejjifmg
import Derived.Test.YtoefmdjgnabgfaaGrpgfeekfoh
import Derived.Test.YtoefmdjgnabgfaaGrpdaleiikp
import Derived.Test.YtoefmdjgnabgfaaGrpnfmidmgj
import Derived.Test.YtoefmdjgnabgfaaGrpapeoecke
import Derived.Test.YtoefmdjgnabgfaaGrpbfenaikk
import Derived.Test.YtoefmdjgnabgfaaGrpkogjmioh
set_option linter.all false
namespace Go.Proofs.Ytoefmdjgnabgfaa
set_option maxRecDepth 100000
set_option maxHeartbeats 6400000
open Go.RowKit Go.Deep
variable {J : World → Prop}
theorem sec_c {xs l : List Int} (hx : xs.length ≤ 100) (hl : 2 ≤ l.length) (hl2 : l.length ≤ 100) {j : Int} (hj : j < xs.length) : Ctr Try.prog J 86 [iv j, .el ([Ze xs]) 0, .el ([Ze l]) 0] (bv (Jd.sec xs (l.getD 1 0) j)) := by
 refine ZI Try.func86 rfl (by intro X hX; simp only [List.mem_cons, List.not_mem_nil, or_false] at hX; rcases hX with rfl | rfl | rfl; exact .v _; exact .el (YH (by intro X hX; rw [List.mem_singleton.1 hX]; exact Z5 _)); exact .el (YH (by intro X hX; rw [List.mem_singleton.1 hX]; exact Z5 _))) (n := 17) rfl (by simp) (fun w0 => ?_)
 refine kW 17 [] [(0, iv j), (1, .el ([Ze xs]) 0), (2, .el ([Ze l]) 0)] (Zb (Za (pM (aC (.bool false)) (kN 17 [] [(0, iv j), (1, .el ([Ze xs]) 0), (2, .el ([Ze l]) 0), (4, bv false)] (Zc (Zb ?_))))))
 by_cases hs1 : 0 ≤ j
 refine ZQ (dM (mT 0 (iv j)) (dC (Y9 rfl (dT hs1)) I0 I0 (dM (mT 6 (bv true)) (dA (Zp (X := Ze xs) (.tmp 1) rfl U24 rfl rfl) I0 (dM (mT 0 (iv j)) (dC (Zo (off := j.toNat * 1) (.tmp 8) (.tmp 9) rfl U24 (by kernel_rfl) (by omega) (by omega) rfl) I0 I0 (dA (Zp (X := iv xs[j.toNat]) (.tmp 10) rfl U3 rfl (ZN xs (by omega))) I0 (dA (Zp (X := Ze l) (.tmp 2) rfl U24 rfl rfl) I0 (dC (Zo (off := 1 * 1) (.tmp 12) (.const (.int .i64 1)) rfl U24 (by kernel_rfl) (by omega) (by omega) rfl) I0 I0 (dA (Zp (X := iv l[1]) (.tmp 13) rfl U3 rfl (ZN l (by omega))) I0 (dC (ZA rfl rfl) I0 I0 (dP (Zf (.tmp 7) (.tmp 15) (.const (.bool false)) true (bv (decide (xs[j.toNat] = l[1]))) (bv false) rfl) (dM (aT 16 (bv (decide (xs[j.toNat] = l[1])))) (dE ?_)))))))))))))) (by kernel_rfl)
 show ETri J w0 _ _ _
 refine Zc (Zt ?_)
 refine Zr Try.results86 (.tmp rfl) ?_
 exact congrArg (fun x : Bool => AV.v (.bool x)) ((by unfold Jd.sec; rw [decide_eq_true hs1, Bool.true_and, Ct.getD_at (L := xs) (by omega), Ct.getD_at (L := l) (by omega)]))
 refine ZQ (dM (mT 0 (iv j)) (dC (Y9 rfl (dF hs1)) I0 I0 (dM (mT 6 (bv false)) (dK (dK (dK (dK (dK (dK (dK (dK (dP (Zf (.tmp 7) (.tmp 15) (.const (.bool false)) false (.v (.tuple #[])) (bv false) rfl) (dM (aT 16 (bv false)) (dE ?_)))))))))))))) (by kernel_rfl)
 show ETri J w0 _ _ _
 refine Zc (Zt ?_)
 refine Zr Try.results86 (.tmp rfl) ?_
 exact congrArg (fun x : Bool => AV.v (.bool x)) ((by unfold Jd.sec; rw [decide_eq_false hs1]; rfl))
theorem hasAdj_c {top : Int} {sh l xs : List Int} (hx : xs.length ≤ 100) (hl : 2 ≤ l.length) (hl2 : l.length ≤ 100) (hLk : Jd.LkOk top sh xs.length) : Ctr Try.prog J 57 [iv top, Ze l, Ze xs, Jd.lkA top sh xs.length] (bv (Jd.adV top (l.getD 0 0) (l.getD 1 0) xs (Jd.lkF top sh xs.length) (Jd.lkS top sh xs.length))) := by
 refine ZI Try.func57 rfl (by intro X hX; simp only [List.mem_cons, List.not_mem_nil, or_false] at hX; rcases hX with rfl | rfl | rfl | rfl; exact .v _; exact Z5 _; exact Z5 _; exact (show Plain (Jd.lkA top sh xs.length) from .sl (YH fun X hX => by obtain ⟨j, _, rfl⟩ := List.mem_map.1 hX; exact .v _))) (n := 48) rfl (by simp) (fun w0 => ?_)
 refine kW 48 [] [(0, iv top), (1, Ze l), (2, Ze xs), (3, Jd.lkA top sh xs.length)] (Zb (Za (Yl rfl (Ya (X := Ze l) (k := 1) (.tmp 1) rfl rfl) ⟨I0, T0⟩ T0 rfl (Yl rfl (Ya (X := Ze xs) (k := 2) (.tmp 2) rfl rfl) ⟨I0, T0⟩ T0 rfl (pM (aC (.bool false)) (kN 48 [(1, .box 24 [Ze l]), (2, .box 24 [Ze xs])] [(0, iv top), (3, Jd.lkA top sh xs.length), (5, .box 1 0), (6, .box 2 0), (8, bv false)] (Zc (Zb (Za (oC (sp_makeFunc (xs := #[.tmp 6, .tmp 5]) (Xs := [.box 2 0, .box 1 0]) rfl rfl) I0 I0 (pM (aT 12 (.clo 86 [.box 2 0, .box 1 0])) ?_)))))))))))
 refine kN 48 [(1, .box 24 [Ze l]), (2, .box 24 [Ze xs])] [(0, iv top), (3, Jd.lkA top sh xs.length), (5, .box 1 0), (6, .box 2 0), (8, bv false), (9, .clo 86 [.box 2 0, .box 1 0])] (Zc (Zb (Zb (Za (oB (lb (Ze xs) 6 U24) I0 rfl (oA (Zi (.tmp 13) rfl U24) I0 (pM (Y5 (.const (.int .i64 0)) (iv 0) rfl) (kN 48 [(1, .box 24 [Ze l]), (2, .box 24 [Ze xs])] [(0, iv top), (3, Jd.lkA top sh xs.length), (5, .box 1 0), (8, bv false), (9, .clo 86 [.box 2 0, .box 1 0]), (13, Ze xs), (14, iv xs.length), (15, iv 0)] (Zc (Zz ?_))))))))))
 refine Yb (σ := {k : Nat // k ≤ xs.length ∧ Jd.noN top (l.getD 0 0) (l.getD 1 0) xs (Jd.lkF top sh xs.length) (Jd.lkS top sh xs.length) k}) (fun s => (ofL [(1, .box 24 [Ze l]), (2, .box 24 [Ze xs])], ofT 48 [(0, iv top), (3, Jd.lkA top sh xs.length), (5, .box 1 0), (9, .clo 86 [.box 2 0, .box 1 0]), (13, Ze xs), (14, iv xs.length), (15, iv s.1)])) (fun s => xs.length - s.1) ⟨0, Nat.zero_le _, Jd.noN_zero⟩ (Zw _ _ rfl (by kernel_rfl) (by kernel_rfl)) (fun s => ?_)
 obtain ⟨k, hk0, hs0⟩ := s
 show ETri J w0 (ofL [(1, .box 24 [Ze l]), (2, .box 24 [Ze xs])]) (ofT 48 [(0, iv top), (3, Jd.lkA top sh xs.length), (5, .box 1 0), (9, .clo 86 [.box 2 0, .box 1 0]), (13, Ze xs), (14, iv xs.length), (15, iv k)]) _
 refine Zb ?_
 by_cases hs1 : ((k : Nat) : Int) < ((xs.length : Nat) : Int)
 have hk1 : k < xs.length := by omega
 obtain ⟨hF1, hS1⟩ := hLk k hk1
 refine Za (oC (ZT rfl (dT hs1)) I0 I0 (kN 48 [(1, .box 24 [Ze l]), (2, .box 24 [Ze xs])] [(0, iv top), (3, Jd.lkA top sh xs.length), (5, .box 1 0), (9, .clo 86 [.box 2 0, .box 1 0]), (13, Ze xs), (14, iv xs.length), (15, iv k), (16, bv true)] (Zc (Zb (Zu rfl (Zk (Zc (Zb (Zz (Zb (Za ?_)))))))))))
 refine pM (mT 15 (iv k)) (oC (Zo (off := k * 1) (.tmp 13) (.tmp 15) rfl U24 (by kernel_rfl) (by omega) (by omega) rfl) I0 I0 (oA (Zp (X := iv xs[k]) (.tmp 18) rfl U3 rfl (ZN xs (by omega))) I0 (pM (aT 17 (iv k)) (pM (aT 19 (iv xs[k])) (kN 48 [(1, .box 24 [Ze l]), (2, .box 24 [Ze xs])] [(0, iv top), (3, Jd.lkA top sh xs.length), (5, .box 1 0), (9, .clo 86 [.box 2 0, .box 1 0]), (10, iv k), (11, iv xs[k]), (13, Ze xs), (14, iv xs.length), (15, iv k), (16, bv true)] (Zc (Zb ?_)))))))
 by_cases hs2 : xs[k] = l[0]
 by_cases hs3 : (Jd.sec xs (l.getD 1 0) (Jd.lkS top sh xs.length k)) = true
 refine Za (pM (mT 11 (iv xs[k])) (oB (lb (Ze l) 5 U24) I0 rfl (oC (Zo (off := 0 * 1) (.tmp 21) (.const (.int .i64 0)) rfl U24 (by kernel_rfl) (by omega) (by omega) rfl) I0 I0 (oA (Zp (X := iv l[0]) (.tmp 22) rfl U3 rfl (ZN l (by omega))) I0 (oC (ZA rfl (dT hs2)) I0 I0 (pM (mT 24 (bv true)) (qM (mT 9 (.clo 86 [.box 2 0, .box 1 0])) (qM (mT 3 (Jd.lkA top sh xs.length)) (qM (mT 10 (iv k)) (gC (Zo (off := k * 3) (.tmp 27) (.tmp 28) rfl U66 (by kernel_rfl) (by omega) (by omega) rfl) I0 I0 (gA (Z4 (off' := k * 3 + 1) (.tmp 29) rfl U76 rfl (z := 1) (by kernel_rfl) (by decide) rfl) I0 ?_)))))))))))
 refine gA (Zp (X := iv (Jd.lkS top sh xs.length k)) (.tmp 30) rfl U3 rfl (Jd.lk_at1 (by omega))) I0 (YD rfl (Kg (c := .tmp 26) (xs := #[.tmp 31]) (Cs := [.box 2 0, .box 1 0]) [(2, .box 24 [Ze xs]), (1, .box 24 [Ze l])] (ZJ (sec_c hx hl hl2 (by omega)) hs3) rfl (by kernel_rfl) rfl (Xs := [iv (Jd.lkS top sh xs.length k)]) rfl rfl rfl rfl rfl) ⟨I0, I0, T0⟩ ⟨rfl, rfl, T0⟩ T0 (qM (mT 32 (bv true)) (qK (qK (qK (qK (qK (qK (qK (qK (qK ?_)))))))))))
 refine qK (qK (qP (Zf (.tmp 33) (.const (.bool true)) (.tmp 44) true (bv true) (.v (.tuple #[])) rfl) (pP (Zf (.tmp 25) (.tmp 45) (.const (.bool false)) true (bv true) (bv false) rfl) (kN 48 [(1, .box 24 [Ze l]), (2, .box 24 [Ze xs])] [(0, iv top), (3, Jd.lkA top sh xs.length), (5, .box 1 0), (9, .clo 86 [.box 2 0, .box 1 0]), (10, iv k), (11, iv xs[k]), (13, Ze xs), (14, iv xs.length), (15, iv k), (16, bv true), (46, bv true)] (Zc (Zu rfl (Zb (Za (pM (aC (.bool true)) (Zv (Zc ?_)))))))))))
 refine Zt (Zq (Zd (Zd (Zq (Zd ?_)))))
 refine Zr Try.results57 (.tmp rfl) ?_
 exact congrArg (fun x : Bool => AV.v (.bool x)) ((Jd.adV_hit (by omega) (by unfold Jd.nxB; rw [Ct.getD_at (L := xs) (by omega), Ct.getD_at (L := l) (by omega)]; simp only [dT hs2, hs3, decide_true, decide_false, Bool.and_true, Bool.true_and, Bool.false_and, Bool.and_false, Bool.true_or, Bool.false_or, Bool.or_true, Bool.or_false, Bool.not_true, Bool.not_false])).symm)
 have hs3f : (Jd.sec xs (l.getD 1 0) (Jd.lkS top sh xs.length k)) = false := by simpa using hs3
 by_cases hs4 : top = 4
 by_cases hs5 : (Jd.sec xs (l.getD 1 0) (Jd.lkF top sh xs.length k)) = true
 refine Za (pM (mT 11 (iv xs[k])) (oB (lb (Ze l) 5 U24) I0 rfl (oC (Zo (off := 0 * 1) (.tmp 21) (.const (.int .i64 0)) rfl U24 (by kernel_rfl) (by omega) (by omega) rfl) I0 I0 (oA (Zp (X := iv l[0]) (.tmp 22) rfl U3 rfl (ZN l (by omega))) I0 (oC (ZA rfl (dT hs2)) I0 I0 (pM (mT 24 (bv true)) (qM (mT 9 (.clo 86 [.box 2 0, .box 1 0])) (qM (mT 3 (Jd.lkA top sh xs.length)) (qM (mT 10 (iv k)) (gC (Zo (off := k * 3) (.tmp 27) (.tmp 28) rfl U66 (by kernel_rfl) (by omega) (by omega) rfl) I0 I0 (gA (Z4 (off' := k * 3 + 1) (.tmp 29) rfl U76 rfl (z := 1) (by kernel_rfl) (by decide) rfl) I0 ?_)))))))))))
 refine gA (Zp (X := iv (Jd.lkS top sh xs.length k)) (.tmp 30) rfl U3 rfl (Jd.lk_at1 (by omega))) I0 (YD rfl (Kg (c := .tmp 26) (xs := #[.tmp 31]) (Cs := [.box 2 0, .box 1 0]) [(2, .box 24 [Ze xs]), (1, .box 24 [Ze l])] (ZJ (sec_c hx hl hl2 (by omega)) hs3f) rfl (by kernel_rfl) rfl (Xs := [iv (Jd.lkS top sh xs.length k)]) rfl rfl rfl rfl rfl) ⟨I0, I0, T0⟩ ⟨rfl, rfl, T0⟩ T0 (qM (mT 32 (bv false)) (qM (mT 0 (iv top)) (gC (ZA rfl (dT hs4)) I0 I0 (qM (mT 35 (bv true)) (qM (mT 9 (.clo 86 [.box 2 0, .box 1 0])) (qM (mT 3 (Jd.lkA top sh xs.length)) (qM (mT 10 (iv k)) (gC (Zo (off := k * 3) (.tmp 38) (.tmp 39) rfl U66 (by kernel_rfl) (by omega) (by omega) rfl) I0 I0 (gA (Z4 (off' := k * 3) (.tmp 40) rfl U76 rfl (z := 1) (by kernel_rfl) (by decide) rfl) I0 (gA (Zp (X := iv (Jd.lkF top sh xs.length k)) (.tmp 41) rfl U3 rfl (Jd.lk_at (by omega))) I0 ?_)))))))))))
 refine YD rfl (Kg (c := .tmp 37) (xs := #[.tmp 42]) (Cs := [.box 2 0, .box 1 0]) [(2, .box 24 [Ze xs]), (1, .box 24 [Ze l])] (ZJ (sec_c hx hl hl2 (by omega)) hs5) rfl (by kernel_rfl) rfl (Xs := [iv (Jd.lkF top sh xs.length k)]) rfl rfl rfl rfl rfl) ⟨I0, I0, T0⟩ ⟨rfl, rfl, T0⟩ T0 (qP (Zf (.tmp 36) (.tmp 43) (.const (.bool false)) true (bv true) (bv false) rfl) (qP (Zf (.tmp 33) (.const (.bool true)) (.tmp 44) false (bv true) (bv true) rfl) (pP (Zf (.tmp 25) (.tmp 45) (.const (.bool false)) true (bv true) (bv false) rfl) (kN 48 [(1, .box 24 [Ze l]), (2, .box 24 [Ze xs])] [(0, iv top), (3, Jd.lkA top sh xs.length), (5, .box 1 0), (9, .clo 86 [.box 2 0, .box 1 0]), (10, iv k), (11, iv xs[k]), (13, Ze xs), (14, iv xs.length), (15, iv k), (16, bv true), (46, bv true)] (Zc (Zu rfl (Zb (Za (pM (aC (.bool true)) (Zv (Zc ?_)))))))))))
 refine Zt (Zq (Zd (Zd (Zq (Zd ?_)))))
 refine Zr Try.results57 (.tmp rfl) ?_
 exact congrArg (fun x : Bool => AV.v (.bool x)) ((Jd.adV_hit (by omega) (by unfold Jd.nxB; rw [Ct.getD_at (L := xs) (by omega), Ct.getD_at (L := l) (by omega)]; simp only [dT hs2, hs3f, dT hs4, hs5, decide_true, decide_false, Bool.and_true, Bool.true_and, Bool.false_and, Bool.and_false, Bool.true_or, Bool.false_or, Bool.or_true, Bool.or_false, Bool.not_true, Bool.not_false])).symm)
 have hs5f : (Jd.sec xs (l.getD 1 0) (Jd.lkF top sh xs.length k)) = false := by simpa using hs5
 refine Za (pM (mT 11 (iv xs[k])) (oB (lb (Ze l) 5 U24) I0 rfl (oC (Zo (off := 0 * 1) (.tmp 21) (.const (.int .i64 0)) rfl U24 (by kernel_rfl) (by omega) (by omega) rfl) I0 I0 (oA (Zp (X := iv l[0]) (.tmp 22) rfl U3 rfl (ZN l (by omega))) I0 (oC (ZA rfl (dT hs2)) I0 I0 (pM (mT 24 (bv true)) (qM (mT 9 (.clo 86 [.box 2 0, .box 1 0])) (qM (mT 3 (Jd.lkA top sh xs.length)) (qM (mT 10 (iv k)) (gC (Zo (off := k * 3) (.tmp 27) (.tmp 28) rfl U66 (by kernel_rfl) (by omega) (by omega) rfl) I0 I0 (gA (Z4 (off' := k * 3 + 1) (.tmp 29) rfl U76 rfl (z := 1) (by kernel_rfl) (by decide) rfl) I0 ?_)))))))))))
 refine gA (Zp (X := iv (Jd.lkS top sh xs.length k)) (.tmp 30) rfl U3 rfl (Jd.lk_at1 (by omega))) I0 (YD rfl (Kg (c := .tmp 26) (xs := #[.tmp 31]) (Cs := [.box 2 0, .box 1 0]) [(2, .box 24 [Ze xs]), (1, .box 24 [Ze l])] (ZJ (sec_c hx hl hl2 (by omega)) hs3f) rfl (by kernel_rfl) rfl (Xs := [iv (Jd.lkS top sh xs.length k)]) rfl rfl rfl rfl rfl) ⟨I0, I0, T0⟩ ⟨rfl, rfl, T0⟩ T0 (qM (mT 32 (bv false)) (qM (mT 0 (iv top)) (gC (ZA rfl (dT hs4)) I0 I0 (qM (mT 35 (bv true)) (qM (mT 9 (.clo 86 [.box 2 0, .box 1 0])) (qM (mT 3 (Jd.lkA top sh xs.length)) (qM (mT 10 (iv k)) (gC (Zo (off := k * 3) (.tmp 38) (.tmp 39) rfl U66 (by kernel_rfl) (by omega) (by omega) rfl) I0 I0 (gA (Z4 (off' := k * 3) (.tmp 40) rfl U76 rfl (z := 1) (by kernel_rfl) (by decide) rfl) I0 (gA (Zp (X := iv (Jd.lkF top sh xs.length k)) (.tmp 41) rfl U3 rfl (Jd.lk_at (by omega))) I0 ?_)))))))))))
 refine YD rfl (Kg (c := .tmp 37) (xs := #[.tmp 42]) (Cs := [.box 2 0, .box 1 0]) [(2, .box 24 [Ze xs]), (1, .box 24 [Ze l])] (ZJ (sec_c hx hl hl2 (by omega)) hs5f) rfl (by kernel_rfl) rfl (Xs := [iv (Jd.lkF top sh xs.length k)]) rfl rfl rfl rfl rfl) ⟨I0, I0, T0⟩ ⟨rfl, rfl, T0⟩ T0 (qP (Zf (.tmp 36) (.tmp 43) (.const (.bool false)) true (bv false) (bv false) rfl) (qP (Zf (.tmp 33) (.const (.bool true)) (.tmp 44) false (bv true) (bv false) rfl) (pP (Zf (.tmp 25) (.tmp 45) (.const (.bool false)) true (bv false) (bv false) rfl) (kN 48 [(1, .box 24 [Ze l]), (2, .box 24 [Ze xs])] [(0, iv top), (3, Jd.lkA top sh xs.length), (5, .box 1 0), (9, .clo 86 [.box 2 0, .box 1 0]), (10, iv k), (11, iv xs[k]), (13, Ze xs), (14, iv xs.length), (15, iv k), (16, bv true), (46, bv false)] (Zc (Zn rfl (Zk (ZU (Zc (Za (oC (ZV (c := ((k + 1 : Nat) : Int)) rfl (w64 (by omega) (by omega) (by omega))) I0 I0 ?_)))))))))))
 refine pM (mT 47 (iv (k + 1 : Nat))) (kN 48 [(1, .box 24 [Ze l]), (2, .box 24 [Ze xs])] [(0, iv top), (3, Jd.lkA top sh xs.length), (5, .box 1 0), (9, .clo 86 [.box 2 0, .box 1 0]), (10, iv k), (11, iv xs[k]), (13, Ze xs), (14, iv xs.length), (15, iv (k + 1 : Nat)), (16, bv true), (46, bv false)] (Zc ?_))
 refine ZH ⟨k + 1, by omega, Jd.noN_succ hs0 (by unfold Jd.nxB; rw [Ct.getD_at (L := xs) (by omega), Ct.getD_at (L := l) (by omega)]; simp only [dT hs2, hs3f, dT hs4, hs5f, decide_true, decide_false, Bool.and_true, Bool.true_and, Bool.false_and, Bool.and_false, Bool.true_or, Bool.false_or, Bool.or_true, Bool.or_false, Bool.not_true, Bool.not_false])⟩ (show xs.length - (k + 1) < xs.length - k by omega) ?_
 exact Zw _ _ rfl (by kernel_rfl) (by kernel_rfl)
 refine Za (pM (mT 11 (iv xs[k])) (oB (lb (Ze l) 5 U24) I0 rfl (oC (Zo (off := 0 * 1) (.tmp 21) (.const (.int .i64 0)) rfl U24 (by kernel_rfl) (by omega) (by omega) rfl) I0 I0 (oA (Zp (X := iv l[0]) (.tmp 22) rfl U3 rfl (ZN l (by omega))) I0 (oC (ZA rfl (dT hs2)) I0 I0 (pM (mT 24 (bv true)) (qM (mT 9 (.clo 86 [.box 2 0, .box 1 0])) (qM (mT 3 (Jd.lkA top sh xs.length)) (qM (mT 10 (iv k)) (gC (Zo (off := k * 3) (.tmp 27) (.tmp 28) rfl U66 (by kernel_rfl) (by omega) (by omega) rfl) I0 I0 (gA (Z4 (off' := k * 3 + 1) (.tmp 29) rfl U76 rfl (z := 1) (by kernel_rfl) (by decide) rfl) I0 ?_)))))))))))
 refine gA (Zp (X := iv (Jd.lkS top sh xs.length k)) (.tmp 30) rfl U3 rfl (Jd.lk_at1 (by omega))) I0 (YD rfl (Kg (c := .tmp 26) (xs := #[.tmp 31]) (Cs := [.box 2 0, .box 1 0]) [(2, .box 24 [Ze xs]), (1, .box 24 [Ze l])] (ZJ (sec_c hx hl hl2 (by omega)) hs3f) rfl (by kernel_rfl) rfl (Xs := [iv (Jd.lkS top sh xs.length k)]) rfl rfl rfl rfl rfl) ⟨I0, I0, T0⟩ ⟨rfl, rfl, T0⟩ T0 (qM (mT 32 (bv false)) (qM (mT 0 (iv top)) (gC (ZA rfl (dF hs4)) I0 I0 (qM (mT 35 (bv false)) (qK (qK (qK (qK (qK (qK ?_)))))))))))
 refine qK (qP (Zf (.tmp 36) (.tmp 43) (.const (.bool false)) false (.v (.tuple #[])) (bv false) rfl) (qP (Zf (.tmp 33) (.const (.bool true)) (.tmp 44) false (bv true) (bv false) rfl) (pP (Zf (.tmp 25) (.tmp 45) (.const (.bool false)) true (bv false) (bv false) rfl) (kN 48 [(1, .box 24 [Ze l]), (2, .box 24 [Ze xs])] [(0, iv top), (3, Jd.lkA top sh xs.length), (5, .box 1 0), (9, .clo 86 [.box 2 0, .box 1 0]), (10, iv k), (11, iv xs[k]), (13, Ze xs), (14, iv xs.length), (15, iv k), (16, bv true), (46, bv false)] (Zc (Zn rfl (Zk (ZU (Zc (Za (oC (ZV (c := ((k + 1 : Nat) : Int)) rfl (w64 (by omega) (by omega) (by omega))) I0 I0 ?_)))))))))))
 refine pM (mT 47 (iv (k + 1 : Nat))) (kN 48 [(1, .box 24 [Ze l]), (2, .box 24 [Ze xs])] [(0, iv top), (3, Jd.lkA top sh xs.length), (5, .box 1 0), (9, .clo 86 [.box 2 0, .box 1 0]), (10, iv k), (11, iv xs[k]), (13, Ze xs), (14, iv xs.length), (15, iv (k + 1 : Nat)), (16, bv true), (46, bv false)] (Zc ?_))
 refine ZH ⟨k + 1, by omega, Jd.noN_succ hs0 (by unfold Jd.nxB; rw [Ct.getD_at (L := xs) (by omega), Ct.getD_at (L := l) (by omega)]; simp only [dT hs2, hs3f, dF hs4, decide_true, decide_false, Bool.and_true, Bool.true_and, Bool.false_and, Bool.and_false, Bool.true_or, Bool.false_or, Bool.or_true, Bool.or_false, Bool.not_true, Bool.not_false])⟩ (show xs.length - (k + 1) < xs.length - k by omega) ?_
 exact Zw _ _ rfl (by kernel_rfl) (by kernel_rfl)
 refine Za (pM (mT 11 (iv xs[k])) (oB (lb (Ze l) 5 U24) I0 rfl (oC (Zo (off := 0 * 1) (.tmp 21) (.const (.int .i64 0)) rfl U24 (by kernel_rfl) (by omega) (by omega) rfl) I0 I0 (oA (Zp (X := iv l[0]) (.tmp 22) rfl U3 rfl (ZN l (by omega))) I0 (oC (ZA rfl (dF hs2)) I0 I0 (pM (mT 24 (bv false)) (qK (qK (qK (qK (qK ?_)))))))))))
 refine qK (qK (qK (qK (qK (qK (qK (qK (qK (qK (qK (qK ?_)))))))))))
 refine qK (qK (qK (pP (Zf (.tmp 25) (.tmp 45) (.const (.bool false)) false (.v (.tuple #[])) (bv false) rfl) (kN 48 [(1, .box 24 [Ze l]), (2, .box 24 [Ze xs])] [(0, iv top), (3, Jd.lkA top sh xs.length), (5, .box 1 0), (9, .clo 86 [.box 2 0, .box 1 0]), (10, iv k), (11, iv xs[k]), (13, Ze xs), (14, iv xs.length), (15, iv k), (16, bv true), (46, bv false)] (Zc (Zn rfl (Zk (ZU (Zc (Za (oC (ZV (c := ((k + 1 : Nat) : Int)) rfl (w64 (by omega) (by omega) (by omega))) I0 I0 ?_)))))))))))
 refine pM (mT 47 (iv (k + 1 : Nat))) (kN 48 [(1, .box 24 [Ze l]), (2, .box 24 [Ze xs])] [(0, iv top), (3, Jd.lkA top sh xs.length), (5, .box 1 0), (9, .clo 86 [.box 2 0, .box 1 0]), (10, iv k), (11, iv xs[k]), (13, Ze xs), (14, iv xs.length), (15, iv (k + 1 : Nat)), (16, bv true), (46, bv false)] (Zc ?_))
 refine ZH ⟨k + 1, by omega, Jd.noN_succ hs0 (by unfold Jd.nxB; rw [Ct.getD_at (L := xs) (by omega), Ct.getD_at (L := l) (by omega)]; simp only [dF hs2, decide_true, decide_false, Bool.and_true, Bool.true_and, Bool.false_and, Bool.and_false, Bool.true_or, Bool.false_or, Bool.or_true, Bool.or_false, Bool.not_true, Bool.not_false])⟩ (show xs.length - (k + 1) < xs.length - k by omega) ?_
 exact Zw _ _ rfl (by kernel_rfl) (by kernel_rfl)
 refine Za (oC (ZT rfl (dF hs1)) I0 I0 (kN 48 [(1, .box 24 [Ze l]), (2, .box 24 [Ze xs])] [(0, iv top), (3, Jd.lkA top sh xs.length), (5, .box 1 0), (9, .clo 86 [.box 2 0, .box 1 0]), (13, Ze xs), (14, iv xs.length), (15, iv k), (16, bv false)] (Zc (Zb (Zn rfl (Z8 (Zx (Zx (YN (Zc (Zb ?_)))))))))))
 refine Za (pM (aC (.bool false)) (Zv (Zc (Zt ?_))))
 refine Zr Try.results57 (.tmp rfl) ?_
 exact congrArg (fun x : Bool => AV.v (.bool x)) ((Jd.adV_none (by omega) hs0).symm)
end Go.Proofs.Ytoefmdjgnabgfaa

namespace Go.Proofs.Ytoefmdjgnabgfaa
set_option maxRecDepth 100000
set_option maxHeartbeats 6400000
open Go.RowKit Go.Deep
variable {J : World → Prop}
theorem isBad_no {p : Fm} {q : Pq} (HQ : PqOk q) {sh A B : List Int} (hl0 : (A ++ B).length ≤ 100) (hadj : ((q.adj.length : Nat) : Int) = 0) : Ctr Try.prog J 27 [.agg (cFm p), .agg (cPq q), Ze (A ++ B), iv A.length, .any] (bv (Jd.alB A q.bad && (decide (((q.adj.length : Nat) : Int) = 0) || Jd.adV p.top (Jd.adX q) (Jd.adY q) (A ++ B) (Jd.lkF p.top sh (A ++ B).length) (Jd.lkS p.top sh (A ++ B).length)))) := by
 have hl2 : (A ++ B).length = A.length + B.length := List.length_append
 have hqb := HQ.lbad
 have hqa := HQ.ladj
 refine ZI Try.func27 rfl (by intro X hX; simp only [List.mem_cons, List.not_mem_nil, or_false] at hX; rcases hX with rfl | rfl | rfl | rfl | rfl; exact ZD (Yo p); exact ZD (Yr q); exact Z5 _; exact .v _; exact (show Plain .any from .any)) (n := 56) rfl (by simp) (fun w0 => ?_)
 refine kW 56 [] [(0, .agg (cFm p)), (1, .agg (cPq q)), (2, Ze (A ++ B)), (3, iv A.length), (4, .any)] (Zb (Za (Yl rfl (Ya (X := .agg (cFm p)) (k := 1) (.tmp 0) rfl rfl) ⟨I0, T0⟩ T0 rfl (Yl rfl (Ya (X := .agg (cPq q)) (k := 2) (.tmp 1) rfl rfl) ⟨I0, T0⟩ T0 rfl (pM (aC (.bool false)) (kN 56 [(1, .box 27 (cFm p)), (2, .box 30 (cPq q))] [(2, Ze (A ++ B)), (3, iv A.length), (5, .box 1 0), (6, .box 2 0), (10, bv false)] (Zc (Zb (Zb (Za (oA (fb 3 6 U30 1) I0 ?_)))))))))))
 refine oB (lb (slA 2 cRw q.bad) 16 U28) I0 rfl (oA (Zi (.tmp 17) rfl U28) I0 (pM (Y5 (.const (.int .i64 0)) (iv 0) rfl) (kN 56 [(1, .box 27 (cFm p)), (2, .box 30 (cPq q))] [(2, Ze (A ++ B)), (3, iv A.length), (5, .box 1 0), (6, .box 2 0), (10, bv false), (17, slA 2 cRw q.bad), (18, iv q.bad.length), (19, iv 0)] (Zc (Zz ?_)))))
 refine Yb (σ := {k : Nat // k ≤ q.bad.length ∧ Jd.upB A q.bad k}) (fun s => (ofL [(1, .box 27 (cFm p)), (2, .box 30 (cPq q))], ofT 56 [(2, Ze (A ++ B)), (3, iv A.length), (5, .box 1 0), (6, .box 2 0), (17, slA 2 cRw q.bad), (18, iv q.bad.length), (19, iv s.1)])) (fun s => q.bad.length - s.1) ⟨0, Nat.zero_le _, Jd.upB_zero _ _⟩ (Zw _ _ rfl (by kernel_rfl) (by kernel_rfl)) (fun s => ?_)
 obtain ⟨k, hk0, hs0⟩ := s
 show ETri J w0 (ofL [(1, .box 27 (cFm p)), (2, .box 30 (cPq q))]) (ofT 56 [(2, Ze (A ++ B)), (3, iv A.length), (5, .box 1 0), (6, .box 2 0), (17, slA 2 cRw q.bad), (18, iv q.bad.length), (19, iv k)]) _
 refine Zb ?_
 by_cases hs1 : ((k : Nat) : Int) < ((q.bad.length : Nat) : Int)
 have hk1 : k < q.bad.length := by omega
 refine Za (oC (ZT rfl (dT hs1)) I0 I0 (kN 56 [(1, .box 27 (cFm p)), (2, .box 30 (cPq q))] [(2, Ze (A ++ B)), (3, iv A.length), (5, .box 1 0), (6, .box 2 0), (17, slA 2 cRw q.bad), (18, iv q.bad.length), (19, iv k), (20, bv true)] (Zc (Zb (Zu rfl (Zk (Zc (Zb (Zz (Zb (Za ?_)))))))))))
 refine oC (Zo (off := k * 2) (.tmp 17) (.tmp 19) rfl U28 (by kernel_rfl) (by omega) (by omega) rfl) I0 I0 (oA (Y6 (z := 2) (.tmp 21) rfl U53 rfl (by kernel_rfl) (Kq lenRw q.bad k (by omega)) rfl) I0 (Yl rfl (sp_alloc (z := .agg #[.slice none 0 0, .int .i64 0]) (k := 3) rfl (by kernel_rfl)) T0 T0 rfl (Yl rfl (Kf (T0 := 53) (X := .agg (cRw q.bad[k])) (cs := [.v (.slice none 0 0), iv 0]) (ds := cRw q.bad[k]) (z := 2) (.tmp 12) (.tmp 22) rfl (by kernel_rfl) (by kernel_rfl) (by kernel_rfl) (of_decide_eq_true (by kernel_rfl)) (by kernel_rfl)) ⟨I0, I0, T0⟩ ⟨rfl, T0⟩ rfl (kN 56 [(1, .box 27 (cFm p)), (2, .box 30 (cPq q)), (3, .box 53 (cRw q.bad[k]))] [(2, Ze (A ++ B)), (3, iv A.length), (5, .box 1 0), (6, .box 2 0), (12, .box 3 0), (17, slA 2 cRw q.bad), (18, iv q.bad.length), (19, iv k), (20, bv true)] (Zc (Zb (Za (pM (aC (.int .i64 0)) (kN 56 [(1, .box 27 (cFm p)), (2, .box 30 (cPq q)), (3, .box 53 (cRw q.bad[k]))] [(2, Ze (A ++ B)), (3, iv A.length), (5, .box 1 0), (6, .box 2 0), (12, .box 3 0), (13, iv 0), (17, slA 2 cRw q.bad), (18, iv q.bad.length), (19, iv k), (20, bv true)] (Zc (Zb ?_)))))))))))
 refine Zb (Za (pM (mT 2 (Ze (A ++ B))) (pM (mT 3 (iv A.length)) (oC (KR (l := 0) (h := A.length) (ds := (A.map iv)) (.tmp 23) none (some (.tmp 24)) rfl U24 (by kernel_rfl) [] [(.tmp 24, iv A.length)] (.inl ⟨rfl, rfl, rfl⟩) (.inr ⟨_, _, rfl, rfl⟩) (Nat.zero_le _) (by omega) (by simp)) I0 I0 (oA (Zi (.tmp 25) rfl U24) I0 (pM (Y5 (.const (.int .i64 0)) (iv 0) rfl) (kN 56 [(1, .box 27 (cFm p)), (2, .box 30 (cPq q)), (3, .box 53 (cRw q.bad[k]))] [(2, Ze (A ++ B)), (3, iv A.length), (5, .box 1 0), (6, .box 2 0), (12, .box 3 0), (13, iv 0), (17, slA 2 cRw q.bad), (18, iv q.bad.length), (19, iv k), (20, bv true), (25, Ze A), (26, iv A.length), (27, iv 0)] (Zc (Zz ?_)))))))))
 refine Yb (σ := {j : Nat // j ≤ A.length}) (fun s => (ofL [(1, .box 27 (cFm p)), (2, .box 30 (cPq q)), (3, .box 53 (cRw q.bad[k]))], ofT 56 [(2, Ze (A ++ B)), (3, iv A.length), (5, .box 1 0), (6, .box 2 0), (12, .box 3 0), (13, iv (Jd.cP (A.take s.1) q.bad[k].1 : Nat)), (17, slA 2 cRw q.bad), (18, iv q.bad.length), (19, iv k), (20, bv true), (25, Ze A), (26, iv A.length), (27, iv s.1)])) (fun s => A.length - s.1) ⟨0, Nat.zero_le _⟩ (Zw _ _ rfl (by kernel_rfl) (by kernel_rfl)) (fun s => ?_)
 obtain ⟨j, hj0⟩ := s
 show ETri J w0 (ofL [(1, .box 27 (cFm p)), (2, .box 30 (cPq q)), (3, .box 53 (cRw q.bad[k]))]) (ofT 56 [(2, Ze (A ++ B)), (3, iv A.length), (5, .box 1 0), (6, .box 2 0), (12, .box 3 0), (13, iv (Jd.cP (A.take j) q.bad[k].1 : Nat)), (17, slA 2 cRw q.bad), (18, iv q.bad.length), (19, iv k), (20, bv true), (25, Ze A), (26, iv A.length), (27, iv j)]) _
 refine Zb ?_
 by_cases hs2 : ((j : Nat) : Int) < ((A.length : Nat) : Int)
 have hj1 : j < A.length := by omega
 have hcp := Jd.cP_le A q.bad[k].1 j
 refine Za (oC (ZT rfl (dT hs2)) I0 I0 (kN 56 [(1, .box 27 (cFm p)), (2, .box 30 (cPq q)), (3, .box 53 (cRw q.bad[k]))] [(2, Ze (A ++ B)), (3, iv A.length), (5, .box 1 0), (6, .box 2 0), (12, .box 3 0), (13, iv (Jd.cP (A.take j) q.bad[k].1 : Nat)), (17, slA 2 cRw q.bad), (18, iv q.bad.length), (19, iv k), (20, bv true), (25, Ze A), (26, iv A.length), (27, iv j), (28, bv true)] (Zc (Zb (Zu rfl (Zk (Zc (Zb (Zz (Zb (Za ?_)))))))))))
 refine oC (Zo (off := j * 1) (.tmp 25) (.tmp 27) rfl U24 (by kernel_rfl) (by omega) (by omega) rfl) I0 I0 (oA (Zp (X := iv A[j]) (.tmp 29) rfl U3 rfl (ZN A (by omega))) I0 (pM (aT 30 (iv A[j])) (kN 56 [(1, .box 27 (cFm p)), (2, .box 30 (cPq q)), (3, .box 53 (cRw q.bad[k]))] [(2, Ze (A ++ B)), (3, iv A.length), (5, .box 1 0), (6, .box 2 0), (12, .box 3 0), (13, iv (Jd.cP (A.take j) q.bad[k].1 : Nat)), (15, iv A[j]), (17, slA 2 cRw q.bad), (18, iv q.bad.length), (19, iv k), (20, bv true), (25, Ze A), (26, iv A.length), (27, iv j), (28, bv true)] (Zc (Zb ?_)))))
 by_cases hs3 : (decide (A[j] ∈ q.bad[k].1)) = true
 refine Za (oA (fb 0 12 U53 1) I0 (oB (lb (Ze q.bad[k].1) 31 U24) I0 rfl (pM (mT 15 (iv A[j])) (oD (Zm (c := .func 56) (xs := #[.tmp 32, .tmp 33]) [] (ZJ (Y0 q.bad[k].1 A[j] (HQ.bad _ (List.getElem_mem (by omega))).2.2) hs3) rfl (by kernel_rfl) rfl (Xs := [Ze q.bad[k].1, iv A[j]]) rfl rfl rfl) I0 I0 I0 (kN 56 [(1, .box 27 (cFm p)), (2, .box 30 (cPq q)), (3, .box 53 (cRw q.bad[k]))] [(2, Ze (A ++ B)), (3, iv A.length), (5, .box 1 0), (6, .box 2 0), (12, .box 3 0), (13, iv (Jd.cP (A.take j) q.bad[k].1 : Nat)), (15, iv A[j]), (17, slA 2 cRw q.bad), (18, iv q.bad.length), (19, iv k), (20, bv true), (25, Ze A), (26, iv A.length), (27, iv j), (28, bv true), (34, bv true)] (Zc (Zu rfl (Za (pM (mT 13 (iv (Jd.cP (A.take j) q.bad[k].1 : Nat))) (oC (ZV (c := ((Jd.cP (A.take j) q.bad[k].1 + 1 : Nat) : Int)) rfl (w64 (by omega) (by omega) (by omega))) I0 I0 (pM (aT 36 (iv (Jd.cP (A.take j) q.bad[k].1 + 1 : Nat))) ?_)))))))))))
 refine kN 56 [(1, .box 27 (cFm p)), (2, .box 30 (cPq q)), (3, .box 53 (cRw q.bad[k]))] [(2, Ze (A ++ B)), (3, iv A.length), (5, .box 1 0), (6, .box 2 0), (12, .box 3 0), (13, iv (Jd.cP (A.take j) q.bad[k].1 + 1 : Nat)), (15, iv A[j]), (17, slA 2 cRw q.bad), (18, iv q.bad.length), (19, iv k), (20, bv true), (25, Ze A), (26, iv A.length), (27, iv j), (28, bv true), (34, bv true)] (ZU (Zc (Za (oC (ZV (c := ((j + 1 : Nat) : Int)) rfl (w64 (by omega) (by omega) (by omega))) I0 I0 (pM (mT 37 (iv (j + 1 : Nat))) (kN 56 [(1, .box 27 (cFm p)), (2, .box 30 (cPq q)), (3, .box 53 (cRw q.bad[k]))] [(2, Ze (A ++ B)), (3, iv A.length), (5, .box 1 0), (6, .box 2 0), (12, .box 3 0), (13, iv (Jd.cP (A.take j) q.bad[k].1 + 1 : Nat)), (15, iv A[j]), (17, slA 2 cRw q.bad), (18, iv q.bad.length), (19, iv k), (20, bv true), (25, Ze A), (26, iv A.length), (27, iv (j + 1 : Nat)), (28, bv true), (34, bv true)] (Zc ?_)))))))
 refine ZH ⟨j + 1, by omega⟩ (show A.length - (j + 1) < A.length - j by omega) ?_
 show Wk _ _ (ofL [(1, .box 27 (cFm p)), (2, .box 30 (cPq q)), (3, .box 53 (cRw q.bad[k]))]) (ofT 56 [(2, Ze (A ++ B)), (3, iv A.length), (5, .box 1 0), (6, .box 2 0), (12, .box 3 0), (13, iv (Jd.cP (A.take (j + 1)) q.bad[k].1 : Nat)), (17, slA 2 cRw q.bad), (18, iv q.bad.length), (19, iv k), (20, bv true), (25, Ze A), (26, iv A.length), (27, iv ((j + 1) : Nat))])
 rw [Jd.cP_in (by omega) hs3]
 exact Zw _ _ rfl (by kernel_rfl) (by kernel_rfl)
 have hs3f : (decide (A[j] ∈ q.bad[k].1)) = false := by simpa using hs3
 refine Za (oA (fb 0 12 U53 1) I0 (oB (lb (Ze q.bad[k].1) 31 U24) I0 rfl (pM (mT 15 (iv A[j])) (oD (Zm (c := .func 56) (xs := #[.tmp 32, .tmp 33]) [] (ZJ (Y0 q.bad[k].1 A[j] (HQ.bad _ (List.getElem_mem (by omega))).2.2) hs3f) rfl (by kernel_rfl) rfl (Xs := [Ze q.bad[k].1, iv A[j]]) rfl rfl rfl) I0 I0 I0 (kN 56 [(1, .box 27 (cFm p)), (2, .box 30 (cPq q)), (3, .box 53 (cRw q.bad[k]))] [(2, Ze (A ++ B)), (3, iv A.length), (5, .box 1 0), (6, .box 2 0), (12, .box 3 0), (13, iv (Jd.cP (A.take j) q.bad[k].1 : Nat)), (15, iv A[j]), (17, slA 2 cRw q.bad), (18, iv q.bad.length), (19, iv k), (20, bv true), (25, Ze A), (26, iv A.length), (27, iv j), (28, bv true), (34, bv false)] (Zc (Zn rfl (Zk (ZU (Zc (Za ?_)))))))))))
 refine oC (ZV (c := ((j + 1 : Nat) : Int)) rfl (w64 (by omega) (by omega) (by omega))) I0 I0 (pM (mT 37 (iv (j + 1 : Nat))) (kN 56 [(1, .box 27 (cFm p)), (2, .box 30 (cPq q)), (3, .box 53 (cRw q.bad[k]))] [(2, Ze (A ++ B)), (3, iv A.length), (5, .box 1 0), (6, .box 2 0), (12, .box 3 0), (13, iv (Jd.cP (A.take j) q.bad[k].1 : Nat)), (15, iv A[j]), (17, slA 2 cRw q.bad), (18, iv q.bad.length), (19, iv k), (20, bv true), (25, Ze A), (26, iv A.length), (27, iv (j + 1 : Nat)), (28, bv true), (34, bv false)] (Zc ?_)))
 refine ZH ⟨j + 1, by omega⟩ (show A.length - (j + 1) < A.length - j by omega) ?_
 show Wk _ _ (ofL [(1, .box 27 (cFm p)), (2, .box 30 (cPq q)), (3, .box 53 (cRw q.bad[k]))]) (ofT 56 [(2, Ze (A ++ B)), (3, iv A.length), (5, .box 1 0), (6, .box 2 0), (12, .box 3 0), (13, iv (Jd.cP (A.take (j + 1)) q.bad[k].1 : Nat)), (17, slA 2 cRw q.bad), (18, iv q.bad.length), (19, iv k), (20, bv true), (25, Ze A), (26, iv A.length), (27, iv ((j + 1) : Nat))])
 rw [Jd.cP_out (by omega) hs3f]
 exact Zw _ _ rfl (by kernel_rfl) (by kernel_rfl)
 refine Za (oC (ZT rfl (dF hs2)) I0 I0 (kN 56 [(1, .box 27 (cFm p)), (2, .box 30 (cPq q)), (3, .box 53 (cRw q.bad[k]))] [(2, Ze (A ++ B)), (3, iv A.length), (5, .box 1 0), (6, .box 2 0), (12, .box 3 0), (13, iv (Jd.cP (A.take j) q.bad[k].1 : Nat)), (17, slA 2 cRw q.bad), (18, iv q.bad.length), (19, iv k), (20, bv true), (25, Ze A), (26, iv A.length), (27, iv j), (28, bv false)] (Zc (Zb (Zn rfl (Z8 (Zx (Zx (YN (Zc (Zb ?_)))))))))))
 refine kW 56 [(1, .box 27 (cFm p)), (2, .box 30 (cPq q)), (3, .box 53 (cRw q.bad[k]))] [(2, Ze (A ++ B)), (3, iv A.length), (5, .box 1 0), (6, .box 2 0), (12, .box 3 0), (13, iv (Jd.cP (A.take j) q.bad[k].1 : Nat)), (17, slA 2 cRw q.bad), (18, iv q.bad.length), (19, iv k), (20, bv true), (25, Ze A), (26, iv A.length), (27, iv j), (28, bv false)] ?_
 have hj2 : j = A.length := by omega
 rw [show A.take j = A by rw [hj2, List.take_length]]
 by_cases hs4 : ((Jd.cP A q.bad[k].1 : Nat) : Int) < q.bad[k].2
 refine Za (pM (mT 13 (iv (Jd.cP A q.bad[k].1 : Nat))) (oA (fb 1 12 U53 1) I0 (oB (lb (iv q.bad[k].2) 39 U3) I0 rfl (oC (ZT rfl (dT hs4)) I0 I0 (kN 56 [(1, .box 27 (cFm p)), (2, .box 30 (cPq q)), (3, .box 53 (cRw q.bad[k]))] [(2, Ze (A ++ B)), (3, iv A.length), (5, .box 1 0), (6, .box 2 0), (12, .box 3 0), (13, iv (Jd.cP A q.bad[k].1 : Nat)), (17, slA 2 cRw q.bad), (18, iv q.bad.length), (19, iv k), (20, bv true), (25, Ze A), (26, iv A.length), (27, iv j), (28, bv false), (41, bv true)] (Zc (Zu rfl (Zb (Za (pM (aC (.bool false)) (Zv ?_)))))))))))
 refine Zc (Zt (Zq (Zd (Zd (Zq (Zd ?_))))))
 refine Zr Try.results27 (.tmp rfl) ?_
 exact congrArg (fun x : Bool => AV.v (.bool x)) ((by rw [Jd.alB_no (by omega) hs4]; rfl))
 refine Za (pM (mT 13 (iv (Jd.cP A q.bad[k].1 : Nat))) (oA (fb 1 12 U53 1) I0 (oB (lb (iv q.bad[k].2) 39 U3) I0 rfl (oC (ZT rfl (dF hs4)) I0 I0 (kN 56 [(1, .box 27 (cFm p)), (2, .box 30 (cPq q)), (3, .box 53 (cRw q.bad[k]))] [(2, Ze (A ++ B)), (3, iv A.length), (5, .box 1 0), (6, .box 2 0), (12, .box 3 0), (13, iv (Jd.cP A q.bad[k].1 : Nat)), (17, slA 2 cRw q.bad), (18, iv q.bad.length), (19, iv k), (20, bv true), (25, Ze A), (26, iv A.length), (27, iv j), (28, bv false), (41, bv false)] (Zc (Zn rfl (Zk (ZU (Zc (Za ?_)))))))))))
 refine oC (ZV (c := ((k + 1 : Nat) : Int)) rfl (w64 (by omega) (by omega) (by omega))) I0 I0 (pM (mT 42 (iv (k + 1 : Nat))) (kN 56 [(1, .box 27 (cFm p)), (2, .box 30 (cPq q)), (3, .box 53 (cRw q.bad[k]))] [(2, Ze (A ++ B)), (3, iv A.length), (5, .box 1 0), (6, .box 2 0), (12, .box 3 0), (13, iv (Jd.cP A q.bad[k].1 : Nat)), (17, slA 2 cRw q.bad), (18, iv q.bad.length), (19, iv (k + 1 : Nat)), (20, bv true), (25, Ze A), (26, iv A.length), (27, iv j), (28, bv false), (41, bv false)] (Zc ?_)))
 refine ZH ⟨k + 1, by omega, Jd.upB_succ (by omega) hs0 hs4⟩ (show q.bad.length - (k + 1) < q.bad.length - k by omega) ?_
 exact Zw _ _ rfl (by kernel_rfl) (by kernel_rfl)
 refine Za (oC (ZT rfl (dF hs1)) I0 I0 (kN 56 [(1, .box 27 (cFm p)), (2, .box 30 (cPq q))] [(2, Ze (A ++ B)), (3, iv A.length), (5, .box 1 0), (6, .box 2 0), (17, slA 2 cRw q.bad), (18, iv q.bad.length), (19, iv k), (20, bv false)] (Zc (Zb (Zn rfl (Z8 (Zx (Zx (YN (Zc (Zb ?_)))))))))))
 refine Za (oA (fb 4 6 U30 1) I0 (oB (lb (Ze q.adj) 43 U24) I0 rfl (oA (Zi (.tmp 44) rfl U24) I0 (oC (ZA rfl (dT hadj)) I0 I0 (pM (mT 46 (bv true)) (qK (qK (qK (qK (qK (qK ?_)))))))))))
 refine qK (pP (Zf (.tmp 47) (.const (.bool true)) (.tmp 54) true (bv true) (.v (.tuple #[])) rfl) (pM (aT 55 (bv true)) (Zv (Zc (Zt ?_)))))
 refine Zr Try.results27 (.tmp rfl) ?_
 exact congrArg (fun x : Bool => AV.v (.bool x)) ((by rw [Jd.alB_yes (by omega) hs0, decide_eq_true hadj]; rfl))
theorem isBad_ad {p : Fm} {q : Pq} (HQ : PqOk q) {sh A B : List Int} (hl0 : (A ++ B).length ≤ 100) (hadj : ¬ ((q.adj.length : Nat) : Int) = 0) (h2a : q.adj.length = 2) (hLk : Jd.LkOk p.top sh (A ++ B).length) : Ctr Try.prog J 27 [.agg (cFm p), .agg (cPq q), Ze (A ++ B), iv A.length, Jd.lkA p.top sh (A ++ B).length] (bv (Jd.alB A q.bad && (decide (((q.adj.length : Nat) : Int) = 0) || Jd.adV p.top (Jd.adX q) (Jd.adY q) (A ++ B) (Jd.lkF p.top sh (A ++ B).length) (Jd.lkS p.top sh (A ++ B).length)))) := by
 have hl2 : (A ++ B).length = A.length + B.length := List.length_append
 have hqb := HQ.lbad
 have hqa := HQ.ladj
 refine ZI Try.func27 rfl (by intro X hX; simp only [List.mem_cons, List.not_mem_nil, or_false] at hX; rcases hX with rfl | rfl | rfl | rfl | rfl; exact ZD (Yo p); exact ZD (Yr q); exact Z5 _; exact .v _; exact (show Plain (Jd.lkA p.top sh (A ++ B).length) from .sl (YH fun X hX => by obtain ⟨j, _, rfl⟩ := List.mem_map.1 hX; exact .v _))) (n := 56) rfl (by simp) (fun w0 => ?_)
 refine kW 56 [] [(0, .agg (cFm p)), (1, .agg (cPq q)), (2, Ze (A ++ B)), (3, iv A.length), (4, Jd.lkA p.top sh (A ++ B).length)] (Zb (Za (Yl rfl (Ya (X := .agg (cFm p)) (k := 1) (.tmp 0) rfl rfl) ⟨I0, T0⟩ T0 rfl (Yl rfl (Ya (X := .agg (cPq q)) (k := 2) (.tmp 1) rfl rfl) ⟨I0, T0⟩ T0 rfl (pM (aC (.bool false)) (kN 56 [(1, .box 27 (cFm p)), (2, .box 30 (cPq q))] [(2, Ze (A ++ B)), (3, iv A.length), (4, Jd.lkA p.top sh (A ++ B).length), (5, .box 1 0), (6, .box 2 0), (10, bv false)] (Zc (Zb (Zb (Za (oA (fb 3 6 U30 1) I0 ?_)))))))))))
 refine oB (lb (slA 2 cRw q.bad) 16 U28) I0 rfl (oA (Zi (.tmp 17) rfl U28) I0 (pM (Y5 (.const (.int .i64 0)) (iv 0) rfl) (kN 56 [(1, .box 27 (cFm p)), (2, .box 30 (cPq q))] [(2, Ze (A ++ B)), (3, iv A.length), (4, Jd.lkA p.top sh (A ++ B).length), (5, .box 1 0), (6, .box 2 0), (10, bv false), (17, slA 2 cRw q.bad), (18, iv q.bad.length), (19, iv 0)] (Zc (Zz ?_)))))
 refine Yb (σ := {k : Nat // k ≤ q.bad.length ∧ Jd.upB A q.bad k}) (fun s => (ofL [(1, .box 27 (cFm p)), (2, .box 30 (cPq q))], ofT 56 [(2, Ze (A ++ B)), (3, iv A.length), (4, Jd.lkA p.top sh (A ++ B).length), (5, .box 1 0), (6, .box 2 0), (17, slA 2 cRw q.bad), (18, iv q.bad.length), (19, iv s.1)])) (fun s => q.bad.length - s.1) ⟨0, Nat.zero_le _, Jd.upB_zero _ _⟩ (Zw _ _ rfl (by kernel_rfl) (by kernel_rfl)) (fun s => ?_)
 obtain ⟨k, hk0, hs0⟩ := s
 show ETri J w0 (ofL [(1, .box 27 (cFm p)), (2, .box 30 (cPq q))]) (ofT 56 [(2, Ze (A ++ B)), (3, iv A.length), (4, Jd.lkA p.top sh (A ++ B).length), (5, .box 1 0), (6, .box 2 0), (17, slA 2 cRw q.bad), (18, iv q.bad.length), (19, iv k)]) _
 refine Zb ?_
 by_cases hs1 : ((k : Nat) : Int) < ((q.bad.length : Nat) : Int)
 have hk1 : k < q.bad.length := by omega
 refine Za (oC (ZT rfl (dT hs1)) I0 I0 (kN 56 [(1, .box 27 (cFm p)), (2, .box 30 (cPq q))] [(2, Ze (A ++ B)), (3, iv A.length), (4, Jd.lkA p.top sh (A ++ B).length), (5, .box 1 0), (6, .box 2 0), (17, slA 2 cRw q.bad), (18, iv q.bad.length), (19, iv k), (20, bv true)] (Zc (Zb (Zu rfl (Zk (Zc (Zb (Zz (Zb (Za ?_)))))))))))
 refine oC (Zo (off := k * 2) (.tmp 17) (.tmp 19) rfl U28 (by kernel_rfl) (by omega) (by omega) rfl) I0 I0 (oA (Y6 (z := 2) (.tmp 21) rfl U53 rfl (by kernel_rfl) (Kq lenRw q.bad k (by omega)) rfl) I0 (Yl rfl (sp_alloc (z := .agg #[.slice none 0 0, .int .i64 0]) (k := 3) rfl (by kernel_rfl)) T0 T0 rfl (Yl rfl (Kf (T0 := 53) (X := .agg (cRw q.bad[k])) (cs := [.v (.slice none 0 0), iv 0]) (ds := cRw q.bad[k]) (z := 2) (.tmp 12) (.tmp 22) rfl (by kernel_rfl) (by kernel_rfl) (by kernel_rfl) (of_decide_eq_true (by kernel_rfl)) (by kernel_rfl)) ⟨I0, I0, T0⟩ ⟨rfl, T0⟩ rfl (kN 56 [(1, .box 27 (cFm p)), (2, .box 30 (cPq q)), (3, .box 53 (cRw q.bad[k]))] [(2, Ze (A ++ B)), (3, iv A.length), (4, Jd.lkA p.top sh (A ++ B).length), (5, .box 1 0), (6, .box 2 0), (12, .box 3 0), (17, slA 2 cRw q.bad), (18, iv q.bad.length), (19, iv k), (20, bv true)] (Zc (Zb (Za (pM (aC (.int .i64 0)) (kN 56 [(1, .box 27 (cFm p)), (2, .box 30 (cPq q)), (3, .box 53 (cRw q.bad[k]))] [(2, Ze (A ++ B)), (3, iv A.length), (4, Jd.lkA p.top sh (A ++ B).length), (5, .box 1 0), (6, .box 2 0), (12, .box 3 0), (13, iv 0), (17, slA 2 cRw q.bad), (18, iv q.bad.length), (19, iv k), (20, bv true)] (Zc (Zb ?_)))))))))))
 refine Zb (Za (pM (mT 2 (Ze (A ++ B))) (pM (mT 3 (iv A.length)) (oC (KR (l := 0) (h := A.length) (ds := (A.map iv)) (.tmp 23) none (some (.tmp 24)) rfl U24 (by kernel_rfl) [] [(.tmp 24, iv A.length)] (.inl ⟨rfl, rfl, rfl⟩) (.inr ⟨_, _, rfl, rfl⟩) (Nat.zero_le _) (by omega) (by simp)) I0 I0 (oA (Zi (.tmp 25) rfl U24) I0 (pM (Y5 (.const (.int .i64 0)) (iv 0) rfl) (kN 56 [(1, .box 27 (cFm p)), (2, .box 30 (cPq q)), (3, .box 53 (cRw q.bad[k]))] [(2, Ze (A ++ B)), (3, iv A.length), (4, Jd.lkA p.top sh (A ++ B).length), (5, .box 1 0), (6, .box 2 0), (12, .box 3 0), (13, iv 0), (17, slA 2 cRw q.bad), (18, iv q.bad.length), (19, iv k), (20, bv true), (25, Ze A), (26, iv A.length), (27, iv 0)] (Zc (Zz ?_)))))))))
 refine Yb (σ := {j : Nat // j ≤ A.length}) (fun s => (ofL [(1, .box 27 (cFm p)), (2, .box 30 (cPq q)), (3, .box 53 (cRw q.bad[k]))], ofT 56 [(2, Ze (A ++ B)), (3, iv A.length), (4, Jd.lkA p.top sh (A ++ B).length), (5, .box 1 0), (6, .box 2 0), (12, .box 3 0), (13, iv (Jd.cP (A.take s.1) q.bad[k].1 : Nat)), (17, slA 2 cRw q.bad), (18, iv q.bad.length), (19, iv k), (20, bv true), (25, Ze A), (26, iv A.length), (27, iv s.1)])) (fun s => A.length - s.1) ⟨0, Nat.zero_le _⟩ (Zw _ _ rfl (by kernel_rfl) (by kernel_rfl)) (fun s => ?_)
 obtain ⟨j, hj0⟩ := s
 show ETri J w0 (ofL [(1, .box 27 (cFm p)), (2, .box 30 (cPq q)), (3, .box 53 (cRw q.bad[k]))]) (ofT 56 [(2, Ze (A ++ B)), (3, iv A.length), (4, Jd.lkA p.top sh (A ++ B).length), (5, .box 1 0), (6, .box 2 0), (12, .box 3 0), (13, iv (Jd.cP (A.take j) q.bad[k].1 : Nat)), (17, slA 2 cRw q.bad), (18, iv q.bad.length), (19, iv k), (20, bv true), (25, Ze A), (26, iv A.length), (27, iv j)]) _
 refine Zb ?_
 by_cases hs2 : ((j : Nat) : Int) < ((A.length : Nat) : Int)
 have hj1 : j < A.length := by omega
 have hcp := Jd.cP_le A q.bad[k].1 j
 refine Za (oC (ZT rfl (dT hs2)) I0 I0 (kN 56 [(1, .box 27 (cFm p)), (2, .box 30 (cPq q)), (3, .box 53 (cRw q.bad[k]))] [(2, Ze (A ++ B)), (3, iv A.length), (4, Jd.lkA p.top sh (A ++ B).length), (5, .box 1 0), (6, .box 2 0), (12, .box 3 0), (13, iv (Jd.cP (A.take j) q.bad[k].1 : Nat)), (17, slA 2 cRw q.bad), (18, iv q.bad.length), (19, iv k), (20, bv true), (25, Ze A), (26, iv A.length), (27, iv j), (28, bv true)] (Zc (Zb (Zu rfl (Zk (Zc (Zb (Zz (Zb (Za ?_)))))))))))
 refine oC (Zo (off := j * 1) (.tmp 25) (.tmp 27) rfl U24 (by kernel_rfl) (by omega) (by omega) rfl) I0 I0 (oA (Zp (X := iv A[j]) (.tmp 29) rfl U3 rfl (ZN A (by omega))) I0 (pM (aT 30 (iv A[j])) (kN 56 [(1, .box 27 (cFm p)), (2, .box 30 (cPq q)), (3, .box 53 (cRw q.bad[k]))] [(2, Ze (A ++ B)), (3, iv A.length), (4, Jd.lkA p.top sh (A ++ B).length), (5, .box 1 0), (6, .box 2 0), (12, .box 3 0), (13, iv (Jd.cP (A.take j) q.bad[k].1 : Nat)), (15, iv A[j]), (17, slA 2 cRw q.bad), (18, iv q.bad.length), (19, iv k), (20, bv true), (25, Ze A), (26, iv A.length), (27, iv j), (28, bv true)] (Zc (Zb ?_)))))
 by_cases hs3 : (decide (A[j] ∈ q.bad[k].1)) = true
 refine Za (oA (fb 0 12 U53 1) I0 (oB (lb (Ze q.bad[k].1) 31 U24) I0 rfl (pM (mT 15 (iv A[j])) (oD (Zm (c := .func 56) (xs := #[.tmp 32, .tmp 33]) [] (ZJ (Y0 q.bad[k].1 A[j] (HQ.bad _ (List.getElem_mem (by omega))).2.2) hs3) rfl (by kernel_rfl) rfl (Xs := [Ze q.bad[k].1, iv A[j]]) rfl rfl rfl) I0 I0 I0 (kN 56 [(1, .box 27 (cFm p)), (2, .box 30 (cPq q)), (3, .box 53 (cRw q.bad[k]))] [(2, Ze (A ++ B)), (3, iv A.length), (4, Jd.lkA p.top sh (A ++ B).length), (5, .box 1 0), (6, .box 2 0), (12, .box 3 0), (13, iv (Jd.cP (A.take j) q.bad[k].1 : Nat)), (15, iv A[j]), (17, slA 2 cRw q.bad), (18, iv q.bad.length), (19, iv k), (20, bv true), (25, Ze A), (26, iv A.length), (27, iv j), (28, bv true), (34, bv true)] (Zc (Zu rfl (Za (pM (mT 13 (iv (Jd.cP (A.take j) q.bad[k].1 : Nat))) (oC (ZV (c := ((Jd.cP (A.take j) q.bad[k].1 + 1 : Nat) : Int)) rfl (w64 (by omega) (by omega) (by omega))) I0 I0 (pM (aT 36 (iv (Jd.cP (A.take j) q.bad[k].1 + 1 : Nat))) ?_)))))))))))
 refine kN 56 [(1, .box 27 (cFm p)), (2, .box 30 (cPq q)), (3, .box 53 (cRw q.bad[k]))] [(2, Ze (A ++ B)), (3, iv A.length), (4, Jd.lkA p.top sh (A ++ B).length), (5, .box 1 0), (6, .box 2 0), (12, .box 3 0), (13, iv (Jd.cP (A.take j) q.bad[k].1 + 1 : Nat)), (15, iv A[j]), (17, slA 2 cRw q.bad), (18, iv q.bad.length), (19, iv k), (20, bv true), (25, Ze A), (26, iv A.length), (27, iv j), (28, bv true), (34, bv true)] (ZU (Zc (Za (oC (ZV (c := ((j + 1 : Nat) : Int)) rfl (w64 (by omega) (by omega) (by omega))) I0 I0 (pM (mT 37 (iv (j + 1 : Nat))) (kN 56 [(1, .box 27 (cFm p)), (2, .box 30 (cPq q)), (3, .box 53 (cRw q.bad[k]))] [(2, Ze (A ++ B)), (3, iv A.length), (4, Jd.lkA p.top sh (A ++ B).length), (5, .box 1 0), (6, .box 2 0), (12, .box 3 0), (13, iv (Jd.cP (A.take j) q.bad[k].1 + 1 : Nat)), (15, iv A[j]), (17, slA 2 cRw q.bad), (18, iv q.bad.length), (19, iv k), (20, bv true), (25, Ze A), (26, iv A.length), (27, iv (j + 1 : Nat)), (28, bv true), (34, bv true)] (Zc ?_)))))))
 refine ZH ⟨j + 1, by omega⟩ (show A.length - (j + 1) < A.length - j by omega) ?_
 show Wk _ _ (ofL [(1, .box 27 (cFm p)), (2, .box 30 (cPq q)), (3, .box 53 (cRw q.bad[k]))]) (ofT 56 [(2, Ze (A ++ B)), (3, iv A.length), (4, Jd.lkA p.top sh (A ++ B).length), (5, .box 1 0), (6, .box 2 0), (12, .box 3 0), (13, iv (Jd.cP (A.take (j + 1)) q.bad[k].1 : Nat)), (17, slA 2 cRw q.bad), (18, iv q.bad.length), (19, iv k), (20, bv true), (25, Ze A), (26, iv A.length), (27, iv ((j + 1) : Nat))])
 rw [Jd.cP_in (by omega) hs3]
 exact Zw _ _ rfl (by kernel_rfl) (by kernel_rfl)
 have hs3f : (decide (A[j] ∈ q.bad[k].1)) = false := by simpa using hs3
 refine Za (oA (fb 0 12 U53 1) I0 (oB (lb (Ze q.bad[k].1) 31 U24) I0 rfl (pM (mT 15 (iv A[j])) (oD (Zm (c := .func 56) (xs := #[.tmp 32, .tmp 33]) [] (ZJ (Y0 q.bad[k].1 A[j] (HQ.bad _ (List.getElem_mem (by omega))).2.2) hs3f) rfl (by kernel_rfl) rfl (Xs := [Ze q.bad[k].1, iv A[j]]) rfl rfl rfl) I0 I0 I0 (kN 56 [(1, .box 27 (cFm p)), (2, .box 30 (cPq q)), (3, .box 53 (cRw q.bad[k]))] [(2, Ze (A ++ B)), (3, iv A.length), (4, Jd.lkA p.top sh (A ++ B).length), (5, .box 1 0), (6, .box 2 0), (12, .box 3 0), (13, iv (Jd.cP (A.take j) q.bad[k].1 : Nat)), (15, iv A[j]), (17, slA 2 cRw q.bad), (18, iv q.bad.length), (19, iv k), (20, bv true), (25, Ze A), (26, iv A.length), (27, iv j), (28, bv true), (34, bv false)] (Zc (Zn rfl (Zk (ZU (Zc (Za ?_)))))))))))
 refine oC (ZV (c := ((j + 1 : Nat) : Int)) rfl (w64 (by omega) (by omega) (by omega))) I0 I0 (pM (mT 37 (iv (j + 1 : Nat))) (kN 56 [(1, .box 27 (cFm p)), (2, .box 30 (cPq q)), (3, .box 53 (cRw q.bad[k]))] [(2, Ze (A ++ B)), (3, iv A.length), (4, Jd.lkA p.top sh (A ++ B).length), (5, .box 1 0), (6, .box 2 0), (12, .box 3 0), (13, iv (Jd.cP (A.take j) q.bad[k].1 : Nat)), (15, iv A[j]), (17, slA 2 cRw q.bad), (18, iv q.bad.length), (19, iv k), (20, bv true), (25, Ze A), (26, iv A.length), (27, iv (j + 1 : Nat)), (28, bv true), (34, bv false)] (Zc ?_)))
 refine ZH ⟨j + 1, by omega⟩ (show A.length - (j + 1) < A.length - j by omega) ?_
 show Wk _ _ (ofL [(1, .box 27 (cFm p)), (2, .box 30 (cPq q)), (3, .box 53 (cRw q.bad[k]))]) (ofT 56 [(2, Ze (A ++ B)), (3, iv A.length), (4, Jd.lkA p.top sh (A ++ B).length), (5, .box 1 0), (6, .box 2 0), (12, .box 3 0), (13, iv (Jd.cP (A.take (j + 1)) q.bad[k].1 : Nat)), (17, slA 2 cRw q.bad), (18, iv q.bad.length), (19, iv k), (20, bv true), (25, Ze A), (26, iv A.length), (27, iv ((j + 1) : Nat))])
 rw [Jd.cP_out (by omega) hs3f]
 exact Zw _ _ rfl (by kernel_rfl) (by kernel_rfl)
 refine Za (oC (ZT rfl (dF hs2)) I0 I0 (kN 56 [(1, .box 27 (cFm p)), (2, .box 30 (cPq q)), (3, .box 53 (cRw q.bad[k]))] [(2, Ze (A ++ B)), (3, iv A.length), (4, Jd.lkA p.top sh (A ++ B).length), (5, .box 1 0), (6, .box 2 0), (12, .box 3 0), (13, iv (Jd.cP (A.take j) q.bad[k].1 : Nat)), (17, slA 2 cRw q.bad), (18, iv q.bad.length), (19, iv k), (20, bv true), (25, Ze A), (26, iv A.length), (27, iv j), (28, bv false)] (Zc (Zb (Zn rfl (Z8 (Zx (Zx (YN (Zc (Zb ?_)))))))))))
 refine kW 56 [(1, .box 27 (cFm p)), (2, .box 30 (cPq q)), (3, .box 53 (cRw q.bad[k]))] [(2, Ze (A ++ B)), (3, iv A.length), (4, Jd.lkA p.top sh (A ++ B).length), (5, .box 1 0), (6, .box 2 0), (12, .box 3 0), (13, iv (Jd.cP (A.take j) q.bad[k].1 : Nat)), (17, slA 2 cRw q.bad), (18, iv q.bad.length), (19, iv k), (20, bv true), (25, Ze A), (26, iv A.length), (27, iv j), (28, bv false)] ?_
 have hj2 : j = A.length := by omega
 rw [show A.take j = A by rw [hj2, List.take_length]]
 by_cases hs4 : ((Jd.cP A q.bad[k].1 : Nat) : Int) < q.bad[k].2
 refine Za (pM (mT 13 (iv (Jd.cP A q.bad[k].1 : Nat))) (oA (fb 1 12 U53 1) I0 (oB (lb (iv q.bad[k].2) 39 U3) I0 rfl (oC (ZT rfl (dT hs4)) I0 I0 (kN 56 [(1, .box 27 (cFm p)), (2, .box 30 (cPq q)), (3, .box 53 (cRw q.bad[k]))] [(2, Ze (A ++ B)), (3, iv A.length), (4, Jd.lkA p.top sh (A ++ B).length), (5, .box 1 0), (6, .box 2 0), (12, .box 3 0), (13, iv (Jd.cP A q.bad[k].1 : Nat)), (17, slA 2 cRw q.bad), (18, iv q.bad.length), (19, iv k), (20, bv true), (25, Ze A), (26, iv A.length), (27, iv j), (28, bv false), (41, bv true)] (Zc (Zu rfl (Zb (Za (pM (aC (.bool false)) (Zv ?_)))))))))))
 refine Zc (Zt (Zq (Zd (Zd (Zq (Zd ?_))))))
 refine Zr Try.results27 (.tmp rfl) ?_
 exact congrArg (fun x : Bool => AV.v (.bool x)) ((by rw [Jd.alB_no (by omega) hs4]; rfl))
 refine Za (pM (mT 13 (iv (Jd.cP A q.bad[k].1 : Nat))) (oA (fb 1 12 U53 1) I0 (oB (lb (iv q.bad[k].2) 39 U3) I0 rfl (oC (ZT rfl (dF hs4)) I0 I0 (kN 56 [(1, .box 27 (cFm p)), (2, .box 30 (cPq q)), (3, .box 53 (cRw q.bad[k]))] [(2, Ze (A ++ B)), (3, iv A.length), (4, Jd.lkA p.top sh (A ++ B).length), (5, .box 1 0), (6, .box 2 0), (12, .box 3 0), (13, iv (Jd.cP A q.bad[k].1 : Nat)), (17, slA 2 cRw q.bad), (18, iv q.bad.length), (19, iv k), (20, bv true), (25, Ze A), (26, iv A.length), (27, iv j), (28, bv false), (41, bv false)] (Zc (Zn rfl (Zk (ZU (Zc (Za ?_)))))))))))
 refine oC (ZV (c := ((k + 1 : Nat) : Int)) rfl (w64 (by omega) (by omega) (by omega))) I0 I0 (pM (mT 42 (iv (k + 1 : Nat))) (kN 56 [(1, .box 27 (cFm p)), (2, .box 30 (cPq q)), (3, .box 53 (cRw q.bad[k]))] [(2, Ze (A ++ B)), (3, iv A.length), (4, Jd.lkA p.top sh (A ++ B).length), (5, .box 1 0), (6, .box 2 0), (12, .box 3 0), (13, iv (Jd.cP A q.bad[k].1 : Nat)), (17, slA 2 cRw q.bad), (18, iv q.bad.length), (19, iv (k + 1 : Nat)), (20, bv true), (25, Ze A), (26, iv A.length), (27, iv j), (28, bv false), (41, bv false)] (Zc ?_)))
 refine ZH ⟨k + 1, by omega, Jd.upB_succ (by omega) hs0 hs4⟩ (show q.bad.length - (k + 1) < q.bad.length - k by omega) ?_
 exact Zw _ _ rfl (by kernel_rfl) (by kernel_rfl)
 refine Za (oC (ZT rfl (dF hs1)) I0 I0 (kN 56 [(1, .box 27 (cFm p)), (2, .box 30 (cPq q))] [(2, Ze (A ++ B)), (3, iv A.length), (4, Jd.lkA p.top sh (A ++ B).length), (5, .box 1 0), (6, .box 2 0), (17, slA 2 cRw q.bad), (18, iv q.bad.length), (19, iv k), (20, bv false)] (Zc (Zb (Zn rfl (Z8 (Zx (Zx (YN (Zc (Zb ?_)))))))))))
 refine Za (oA (fb 4 6 U30 1) I0 (oB (lb (Ze q.adj) 43 U24) I0 rfl (oA (Zi (.tmp 44) rfl U24) I0 (oC (ZA rfl (dF hadj)) I0 I0 (pM (mT 46 (bv false)) (gA (fb 1 5 U27 1) I0 (gB (lb (iv p.top) 48 U3) I0 rfl (gA (fb 4 6 U30 1) I0 (gB (lb (Ze q.adj) 50 U24) I0 rfl (qM (mT 2 (Ze (A ++ B))) (qM (mT 4 (Jd.lkA p.top sh (A ++ B).length)) ?_)))))))))))
 refine YD rfl (Zm (c := .func 57) (xs := #[.tmp 49, .tmp 51, .tmp 52, .tmp 53]) [] (hasAdj_c hl0 (by omega) (by omega) hLk) rfl (by kernel_rfl) rfl (Xs := [iv p.top, Ze q.adj, Ze (A ++ B), Jd.lkA p.top sh (A ++ B).length]) rfl rfl rfl) ⟨I0, I0, I0, I0, I0, T0⟩ T0 T0 (pP (Zf (.tmp 47) (.const (.bool true)) (.tmp 54) false (bv true) (bv (Jd.adV p.top (q.adj.getD 0 0) (q.adj.getD 1 0) (A ++ B) (Jd.lkF p.top sh (A ++ B).length) (Jd.lkS p.top sh (A ++ B).length))) rfl) (pM (aT 55 (bv (Jd.adV p.top (q.adj.getD 0 0) (q.adj.getD 1 0) (A ++ B) (Jd.lkF p.top sh (A ++ B).length) (Jd.lkS p.top sh (A ++ B).length)))) (Zv (Zc (Zt ?_)))))
 refine Zr Try.results27 (.tmp rfl) ?_
 exact congrArg (fun x : Bool => AV.v (.bool x)) ((by rw [Jd.alB_yes (by omega) hs0, decide_eq_false hadj, Bool.true_and, Bool.false_or]; rfl))
end Go.Proofs.Ytoefmdjgnabgfaa

namespace Go.Proofs.Ytoefmdjgnabgfaa
set_option maxRecDepth 100000
set_option maxHeartbeats 6400000
open Go.RowKit Go.Deep
variable {J : World → Prop}
theorem Bad_err {p : Fm} (HP : FmOk p) {q : Pq} (HQ : PqOk q) {c : Cf} (HC : Rd.CgOk c) (hn : Jd.prE p q 1 = 0 → Jd.okB p c = false) : Ctr Try.prog J 11 [.agg (cFm p), .agg (cPq q), .agg (Rd.cCg c)] (.tup [bv (Jd.bdR p q c), iv (Jd.bdE p q c)]) := by
 have l1 := HP.lstates
 have l2 := HC.lst
 refine ZI Try.func11 rfl (by intro X hX; simp only [List.mem_cons, List.not_mem_nil, or_false] at hX; rcases hX with rfl | rfl | rfl; exact ZD (Yo p); exact ZD (Yr q); exact ZD (Rd.plain_cg c)) (n := 48) rfl (by simp) (fun w0 => ?_)
 refine kW 48 [] [(0, .agg (cFm p)), (1, .agg (cPq q)), (2, .agg (Rd.cCg c))] (Zb (Za (Yl rfl (Ya (X := .agg (cFm p)) (k := 1) (.tmp 0) rfl rfl) ⟨I0, T0⟩ T0 rfl (Yl rfl (Ya (X := .agg (cPq q)) (k := 2) (.tmp 1) rfl rfl) ⟨I0, T0⟩ T0 rfl (Yl rfl (Ya (X := .agg (Rd.cCg c)) (k := 3) (.tmp 2) rfl rfl) ⟨I0, T0⟩ T0 rfl (pM (aC (.bool false)) (pM (aC (.int .i64 0)) (kN 48 [(1, .box 27 (cFm p)), (2, .box 30 (cPq q)), (3, .box 32 (Rd.cCg c))] [(3, .box 1 0), (4, .box 2 0), (5, .box 3 0), (6, bv false), (7, iv 0)] (Zc (Zb (Zb ?_)))))))))))
 refine Za (oB (Zj (Y := .box 27 (cFm p)) (ds := cFm p) (z := 10) (.tmp 3) rfl U27 rfl (by kernel_rfl) (by decide) (by kernel_rfl) (by kernel_rfl)) I0 rfl (oB (Zj (Y := .box 30 (cPq q)) (ds := cPq q) (z := 6) (.tmp 4) rfl U30 rfl (by kernel_rfl) (by decide) (by kernel_rfl) (by kernel_rfl)) I0 rfl (Yl rfl (Zm (c := .func 25) (xs := #[.tmp 9, .tmp 10, .const (.int .i64 1)]) [] (propErr_c HP HQ) rfl (by kernel_rfl) rfl (Xs := [.agg (cFm p), .agg (cPq q), iv 1]) rfl rfl rfl) ⟨I0, I0, I0, I0, T0⟩ T0 T0 (pM (aT 11 (iv (Jd.prE p q 1))) (kN 48 [(1, .box 27 (cFm p)), (2, .box 30 (cPq q)), (3, .box 32 (Rd.cCg c))] [(3, .box 1 0), (4, .box 2 0), (5, .box 3 0), (6, bv false), (7, iv 0), (8, iv (Jd.prE p q 1))] (Zc (Zb ?_)))))))
 by_cases hs1 : Jd.prE p q 1 = 0
 refine Za (pM (mT 8 (iv (Jd.prE p q 1))) (oC (ZE rfl (dT' hs1)) I0 I0 (kN 48 [(1, .box 27 (cFm p)), (2, .box 30 (cPq q)), (3, .box 32 (Rd.cCg c))] [(3, .box 1 0), (4, .box 2 0), (5, .box 3 0), (6, bv false), (7, iv 0), (8, iv (Jd.prE p q 1)), (13, bv false)] (Zc (Zn rfl (Zk (Zc (Zb (Zb ?_)))))))))
 by_cases hs2 : (Ct.plB p c) = true
 refine Za (oB (Zj (Y := .box 27 (cFm p)) (ds := cFm p) (z := 10) (.tmp 3) rfl U27 rfl (by kernel_rfl) (by decide) (by kernel_rfl) (by kernel_rfl)) I0 rfl (oB (Zj (Y := .box 32 (Rd.cCg c)) (ds := Rd.cCg c) (z := 6) (.tmp 5) rfl U32 rfl (by kernel_rfl) (by decide) (by kernel_rfl) (by kernel_rfl)) I0 rfl (oD (Zm (c := .func 22) (xs := #[.tmp 15, .tmp 16]) [] (ZJ (Kp HP HC) hs2) rfl (by kernel_rfl) rfl (Xs := [.agg (cFm p), .agg (Rd.cCg c)]) rfl rfl rfl) I0 I0 I0 (oA (ZC rfl rfl) I0 (pM (mT 18 (bv false)) (gA (fb 1 3 U27 1) I0 (gB (lb (iv p.top) 20 U3) I0 rfl (gC (ZA rfl (dT (Jd.top4 (hn hs1) hs2))) I0 I0 (qM (mT 22 (bv true)) (gA (fb 0 5 U32 1) I0 (gB (lb (Ze c.sh) 24 U24) I0 rfl ?_)))))))))))
 refine gA (fb 1 5 U32 1) I0 (gB (lb (Ze c.st) 26 U24) I0 rfl (gA (Zi (.tmp 27) rfl U24) I0 (gD (Zm (c := .func 26) (xs := #[.tmp 25, .tmp 28]) [] (ZJ (isShapeJ_c HC.sh HC.lsh _) (Jd.shpN (hn hs1) hs2)) rfl (by kernel_rfl) rfl (Xs := [Ze c.sh, iv c.st.length]) rfl rfl rfl) I0 I0 I0 (gA (ZC rfl rfl) I0 (qP (Zf (.tmp 23) (.tmp 30) (.const (.bool false)) true (bv true) (bv false) rfl) (pP (Zf (.tmp 19) (.const (.bool true)) (.tmp 31) false (bv true) (bv true) rfl) (kN 48 [(1, .box 27 (cFm p)), (2, .box 30 (cPq q)), (3, .box 32 (Rd.cCg c))] [(3, .box 1 0), (4, .box 2 0), (5, .box 3 0), (6, bv false), (7, iv 0), (32, bv true)] (Zc (Zu rfl (Zb (Za ?_)))))))))))
 refine pM (aC (.bool false)) (pM (aC (.int .i64 1)) (Zv (Zc (Zt (Zd ?_)))))
 refine Yt Try.results11 (.tmp rfl) (.tmp rfl) ?_
 rw [Jd.bdR_n hs1 (hn hs1), Jd.bdE_n hs1 (hn hs1)]
 exact rfl
 have hs2f : (Ct.plB p c) = false := by simpa using hs2
 refine Za (oB (Zj (Y := .box 27 (cFm p)) (ds := cFm p) (z := 10) (.tmp 3) rfl U27 rfl (by kernel_rfl) (by decide) (by kernel_rfl) (by kernel_rfl)) I0 rfl (oB (Zj (Y := .box 32 (Rd.cCg c)) (ds := Rd.cCg c) (z := 6) (.tmp 5) rfl U32 rfl (by kernel_rfl) (by decide) (by kernel_rfl) (by kernel_rfl)) I0 rfl (oD (Zm (c := .func 22) (xs := #[.tmp 15, .tmp 16]) [] (ZJ (Kp HP HC) hs2f) rfl (by kernel_rfl) rfl (Xs := [.agg (cFm p), .agg (Rd.cCg c)]) rfl rfl rfl) I0 I0 I0 (oA (ZC rfl rfl) I0 (pM (mT 18 (bv true)) (qK (qK (qK (qK (qK (qK ?_)))))))))))
 refine qK (qK (qK (qK (qK (qK (pP (Zf (.tmp 19) (.const (.bool true)) (.tmp 31) true (bv true) (.v (.tuple #[])) rfl) (kN 48 [(1, .box 27 (cFm p)), (2, .box 30 (cPq q)), (3, .box 32 (Rd.cCg c))] [(3, .box 1 0), (4, .box 2 0), (5, .box 3 0), (6, bv false), (7, iv 0), (32, bv true)] (Zc (Zu rfl (Zb (Za ?_)))))))))))
 refine pM (aC (.bool false)) (pM (aC (.int .i64 1)) (Zv (Zc (Zt (Zd ?_)))))
 refine Yt Try.results11 (.tmp rfl) (.tmp rfl) ?_
 rw [Jd.bdR_n hs1 (hn hs1), Jd.bdE_n hs1 (hn hs1)]
 exact rfl
 refine Za (pM (mT 8 (iv (Jd.prE p q 1))) (oC (ZE rfl (dF' hs1)) I0 I0 (kN 48 [(1, .box 27 (cFm p)), (2, .box 30 (cPq q)), (3, .box 32 (Rd.cCg c))] [(3, .box 1 0), (4, .box 2 0), (5, .box 3 0), (6, bv false), (7, iv 0), (8, iv (Jd.prE p q 1)), (13, bv true)] (Zc (Zu rfl (Zb (Za (pM (mT 8 (iv (Jd.prE p q 1))) (pM (aC (.bool false)) (pM (aT 14 (iv (Jd.prE p q 1))) (Zv ?_)))))))))))
 refine Zc (Zt (Zd ?_))
 refine Yt Try.results11 (.tmp rfl) (.tmp rfl) ?_
 rw [Jd.bdR_p hs1, Jd.bdE_p hs1]
 exact rfl
theorem Bad_no {p : Fm} (HP : FmOk p) {q : Pq} (HQ : PqOk q) {sh A B se fa : List Int} {val : Int} (HC : Rd.CgOk (Ct.two sh A B se fa val)) (hpr : Jd.prE p q 1 = 0) (hok : Jd.okB p (Ct.two sh A B se fa val) = true) (hadj : ((q.adj.length : Nat) : Int) = 0) : Ctr Try.prog J 11 [.agg (cFm p), .agg (cPq q), .agg (Rd.cCg (Ct.two sh A B se fa val))] (.tup [bv (Jd.bdR p q (Ct.two sh A B se fa val)), iv (Jd.bdE p q (Ct.two sh A B se fa val))]) := by
 have hl0 : (A ++ B).length ≤ 100 := HC.lst
 have hl2 : (A ++ B).length = A.length + B.length := List.length_append
 have hpl := Jd.ok_pl hok
 have htop := Jd.top_in (Jd.vp_val (Jd.prE_in hpr).1)
 refine ZI Try.func11 rfl (by intro X hX; simp only [List.mem_cons, List.not_mem_nil, or_false] at hX; rcases hX with rfl | rfl | rfl; exact ZD (Yo p); exact ZD (Yr q); exact ZD (Rd.plain_cg _)) (n := 48) rfl (by simp) (fun w0 => ?_)
 refine kW 48 [] [(0, .agg (cFm p)), (1, .agg (cPq q)), (2, .agg (Rd.cCg (Ct.two sh A B se fa val)))] (Zb (Za (Yl rfl (Ya (X := .agg (cFm p)) (k := 1) (.tmp 0) rfl rfl) ⟨I0, T0⟩ T0 rfl (Yl rfl (Ya (X := .agg (cPq q)) (k := 2) (.tmp 1) rfl rfl) ⟨I0, T0⟩ T0 rfl (Yl rfl (Ya (X := .agg (Rd.cCg (Ct.two sh A B se fa val))) (k := 3) (.tmp 2) rfl rfl) ⟨I0, T0⟩ T0 rfl (pM (aC (.bool false)) (pM (aC (.int .i64 0)) (kN 48 [(1, .box 27 (cFm p)), (2, .box 30 (cPq q)), (3, .box 32 (Rd.cCg (Ct.two sh A B se fa val)))] [(3, .box 1 0), (4, .box 2 0), (5, .box 3 0), (6, bv false), (7, iv 0)] (Zc (Zb (Zb ?_)))))))))))
 refine Za (oB (Zj (Y := .box 27 (cFm p)) (ds := cFm p) (z := 10) (.tmp 3) rfl U27 rfl (by kernel_rfl) (by decide) (by kernel_rfl) (by kernel_rfl)) I0 rfl (oB (Zj (Y := .box 30 (cPq q)) (ds := cPq q) (z := 6) (.tmp 4) rfl U30 rfl (by kernel_rfl) (by decide) (by kernel_rfl) (by kernel_rfl)) I0 rfl (Yl rfl (Zm (c := .func 25) (xs := #[.tmp 9, .tmp 10, .const (.int .i64 1)]) [] (propErr_c HP HQ) rfl (by kernel_rfl) rfl (Xs := [.agg (cFm p), .agg (cPq q), iv 1]) rfl rfl rfl) ⟨I0, I0, I0, I0, T0⟩ T0 T0 (pM (aT 11 (iv (Jd.prE p q 1))) (kN 48 [(1, .box 27 (cFm p)), (2, .box 30 (cPq q)), (3, .box 32 (Rd.cCg (Ct.two sh A B se fa val)))] [(3, .box 1 0), (4, .box 2 0), (5, .box 3 0), (6, bv false), (7, iv 0), (8, iv (Jd.prE p q 1))] (Zc (Zb (Za (pM (mT 8 (iv (Jd.prE p q 1))) (oC (ZE rfl (dT' hpr)) I0 I0 (kN 48 [(1, .box 27 (cFm p)), (2, .box 30 (cPq q)), (3, .box 32 (Rd.cCg (Ct.two sh A B se fa val)))] [(3, .box 1 0), (4, .box 2 0), (5, .box 3 0), (6, bv false), (7, iv 0), (8, iv (Jd.prE p q 1)), (13, bv false)] ?_)))))))))))
 refine Zc (Zn rfl (Zk (Zc (Zb (Zb ?_)))))
 by_cases hs1 : p.top = 4
 refine Za (oB (Zj (Y := .box 27 (cFm p)) (ds := cFm p) (z := 10) (.tmp 3) rfl U27 rfl (by kernel_rfl) (by decide) (by kernel_rfl) (by kernel_rfl)) I0 rfl (oB (Zj (Y := .box 32 (Rd.cCg (Ct.two sh A B se fa val))) (ds := Rd.cCg (Ct.two sh A B se fa val)) (z := 6) (.tmp 5) rfl U32 rfl (by kernel_rfl) (by decide) (by kernel_rfl) (by kernel_rfl)) I0 rfl (oD (Zm (c := .func 22) (xs := #[.tmp 15, .tmp 16]) [] (ZJ (Kp HP HC) hpl) rfl (by kernel_rfl) rfl (Xs := [.agg (cFm p), .agg (Rd.cCg (Ct.two sh A B se fa val))]) rfl rfl rfl) I0 I0 I0 (oA (ZC rfl rfl) I0 (pM (mT 18 (bv false)) (gA (fb 1 3 U27 1) I0 (gB (lb (iv p.top) 20 U3) I0 rfl (gC (ZA rfl (dT hs1)) I0 I0 (qM (mT 22 (bv true)) (gA (fb 0 5 U32 1) I0 (gB (lb (Ze sh) 24 U24) I0 rfl ?_)))))))))))
 refine gA (fb 1 5 U32 1) I0 (gB (lb (Ze (A ++ B)) 26 U24) I0 rfl (gA (Zi (.tmp 27) rfl U24) I0 (gD (Zm (c := .func 26) (xs := #[.tmp 25, .tmp 28]) [] (ZJ (isShapeJ_c HC.sh HC.lsh _) (Jd.shpY hok hs1)) rfl (by kernel_rfl) rfl (Xs := [Ze sh, iv ((A ++ B).length : Nat)]) rfl rfl rfl) I0 I0 I0 (gA (ZC rfl rfl) I0 (qP (Zf (.tmp 23) (.tmp 30) (.const (.bool false)) true (bv false) (bv false) rfl) (pP (Zf (.tmp 19) (.const (.bool true)) (.tmp 31) false (bv true) (bv false) rfl) (kN 48 [(1, .box 27 (cFm p)), (2, .box 30 (cPq q)), (3, .box 32 (Rd.cCg (Ct.two sh A B se fa val)))] [(3, .box 1 0), (4, .box 2 0), (5, .box 3 0), (6, bv false), (7, iv 0), (32, bv false)] (Zc (Zn rfl (Zk (Zc ?_)))))))))))
 refine Zb ?_
 refine ZQ (dB (Zj (Y := .box 27 (cFm p)) (ds := cFm p) (z := 10) (.tmp 3) rfl U27 rfl (by kernel_rfl) (by decide) (by kernel_rfl) (by kernel_rfl)) I0 rfl (dB (Zj (Y := .box 30 (cPq q)) (ds := cPq q) (z := 6) (.tmp 4) rfl U30 rfl (by kernel_rfl) (by decide) (by kernel_rfl) (by kernel_rfl)) I0 rfl (dA (fb 1 5 U32 1) I0 (dB (lb (Ze (A ++ B)) 35 U24) I0 rfl (dA (fb 2 5 U32 1) I0 (dB (lb (iv A.length) 37 U3) I0 rfl (dA (fb 1 3 U27 1) I0 (dB (lb (iv p.top) 39 U3) I0 rfl (dA (fb 0 5 U32 1) I0 (dB (lb (Ze sh) 41 U24) I0 rfl (dA (fb 1 5 U32 1) I0 (dB (lb (Ze (A ++ B)) 43 U24) I0 rfl (dA (Zi (.tmp 44) rfl U24) I0 (dR (Zm (c := .func 28) (xs := #[.tmp 40, .tmp 42, .tmp 45]) [] (links_any (top := p.top) (sh := sh) (n := (A ++ B).length) HC.sh HC.lsh hl0 (.inr (.inr (.inr ⟨hs1, Jd.shpY hok hs1⟩)))) rfl (by kernel_rfl) rfl (Xs := [iv p.top, Ze sh, iv ((A ++ B).length : Nat)]) rfl rfl rfl) ⟨I0, I0, I0, I0, T0⟩ T0 T0 (dR (Zm (c := .func 27) (xs := #[.tmp 33, .tmp 34, .tmp 36, .tmp 38, .tmp 46]) [] (isBad_no HQ hl0 hadj) rfl (by kernel_rfl) rfl (Xs := [.agg (cFm p), .agg (cPq q), Ze (A ++ B), iv A.length, .any]) rfl rfl rfl) ⟨I0, I0, I0, I0, I0, .inr (.inl rfl), T0⟩ T0 T0 (dM (aT 47 (bv (Jd.alB A q.bad && (decide (((q.adj.length : Nat) : Int) = 0) || Jd.adV p.top (Jd.adX q) (Jd.adY q) (A ++ B) (Jd.lkF p.top sh (A ++ B).length) (Jd.lkS p.top sh (A ++ B).length))))) (dM (aC (.int .i64 0)) (dE ?_)))))))))))))))))) (by kernel_rfl)
 show ETri J w0 _ _ _
 refine Zc (Zt ?_)
 refine Yt Try.results11 (.tmp rfl) (.tmp rfl) ?_
 rw [Jd.bdR_o hpr hok, Jd.bdE_o hpr hok, Jd.bdV_two]
 exact rfl
 refine Za (oB (Zj (Y := .box 27 (cFm p)) (ds := cFm p) (z := 10) (.tmp 3) rfl U27 rfl (by kernel_rfl) (by decide) (by kernel_rfl) (by kernel_rfl)) I0 rfl (oB (Zj (Y := .box 32 (Rd.cCg (Ct.two sh A B se fa val))) (ds := Rd.cCg (Ct.two sh A B se fa val)) (z := 6) (.tmp 5) rfl U32 rfl (by kernel_rfl) (by decide) (by kernel_rfl) (by kernel_rfl)) I0 rfl (oD (Zm (c := .func 22) (xs := #[.tmp 15, .tmp 16]) [] (ZJ (Kp HP HC) hpl) rfl (by kernel_rfl) rfl (Xs := [.agg (cFm p), .agg (Rd.cCg (Ct.two sh A B se fa val))]) rfl rfl rfl) I0 I0 I0 (oA (ZC rfl rfl) I0 (pM (mT 18 (bv false)) (gA (fb 1 3 U27 1) I0 (gB (lb (iv p.top) 20 U3) I0 rfl (gC (ZA rfl (dF hs1)) I0 I0 (qM (mT 22 (bv false)) (qK (qK ?_)))))))))))
 refine qK (qK (qK (qK (qK (qP (Zf (.tmp 23) (.tmp 30) (.const (.bool false)) false (.v (.tuple #[])) (bv false) rfl) (pP (Zf (.tmp 19) (.const (.bool true)) (.tmp 31) false (bv true) (bv false) rfl) (kN 48 [(1, .box 27 (cFm p)), (2, .box 30 (cPq q)), (3, .box 32 (Rd.cCg (Ct.two sh A B se fa val)))] [(3, .box 1 0), (4, .box 2 0), (5, .box 3 0), (6, bv false), (7, iv 0), (32, bv false)] (Zc (Zn rfl (Zk (Zc ?_)))))))))))
 refine Zb ?_
 refine ZQ (dB (Zj (Y := .box 27 (cFm p)) (ds := cFm p) (z := 10) (.tmp 3) rfl U27 rfl (by kernel_rfl) (by decide) (by kernel_rfl) (by kernel_rfl)) I0 rfl (dB (Zj (Y := .box 30 (cPq q)) (ds := cPq q) (z := 6) (.tmp 4) rfl U30 rfl (by kernel_rfl) (by decide) (by kernel_rfl) (by kernel_rfl)) I0 rfl (dA (fb 1 5 U32 1) I0 (dB (lb (Ze (A ++ B)) 35 U24) I0 rfl (dA (fb 2 5 U32 1) I0 (dB (lb (iv A.length) 37 U3) I0 rfl (dA (fb 1 3 U27 1) I0 (dB (lb (iv p.top) 39 U3) I0 rfl (dA (fb 0 5 U32 1) I0 (dB (lb (Ze sh) 41 U24) I0 rfl (dA (fb 1 5 U32 1) I0 (dB (lb (Ze (A ++ B)) 43 U24) I0 rfl (dA (Zi (.tmp 44) rfl U24) I0 (dR (Zm (c := .func 28) (xs := #[.tmp 40, .tmp 42, .tmp 45]) [] (links_any (top := p.top) (sh := sh) (n := (A ++ B).length) HC.sh HC.lsh hl0 (by omega)) rfl (by kernel_rfl) rfl (Xs := [iv p.top, Ze sh, iv ((A ++ B).length : Nat)]) rfl rfl rfl) ⟨I0, I0, I0, I0, T0⟩ T0 T0 (dR (Zm (c := .func 27) (xs := #[.tmp 33, .tmp 34, .tmp 36, .tmp 38, .tmp 46]) [] (isBad_no HQ hl0 hadj) rfl (by kernel_rfl) rfl (Xs := [.agg (cFm p), .agg (cPq q), Ze (A ++ B), iv A.length, .any]) rfl rfl rfl) ⟨I0, I0, I0, I0, I0, .inr (.inl rfl), T0⟩ T0 T0 (dM (aT 47 (bv (Jd.alB A q.bad && (decide (((q.adj.length : Nat) : Int) = 0) || Jd.adV p.top (Jd.adX q) (Jd.adY q) (A ++ B) (Jd.lkF p.top sh (A ++ B).length) (Jd.lkS p.top sh (A ++ B).length))))) (dM (aC (.int .i64 0)) (dE ?_)))))))))))))))))) (by kernel_rfl)
 show ETri J w0 _ _ _
 refine Zc (Zt ?_)
 refine Yt Try.results11 (.tmp rfl) (.tmp rfl) ?_
 rw [Jd.bdR_o hpr hok, Jd.bdE_o hpr hok, Jd.bdV_two]
 exact rfl
theorem Bad_ad {p : Fm} (HP : FmOk p) {q : Pq} (HQ : PqOk q) {sh A B se fa : List Int} {val : Int} (HC : Rd.CgOk (Ct.two sh A B se fa val)) (hpr : Jd.prE p q 1 = 0) (hok : Jd.okB p (Ct.two sh A B se fa val) = true) (hadj : ¬ ((q.adj.length : Nat) : Int) = 0) (h2a : q.adj.length = 2) (ht1 : ¬ p.top = 1) (hLk : Jd.LkOk p.top sh (A ++ B).length) : Ctr Try.prog J 11 [.agg (cFm p), .agg (cPq q), .agg (Rd.cCg (Ct.two sh A B se fa val))] (.tup [bv (Jd.bdR p q (Ct.two sh A B se fa val)), iv (Jd.bdE p q (Ct.two sh A B se fa val))]) := by
 have hl0 : (A ++ B).length ≤ 100 := HC.lst
 have hl2 : (A ++ B).length = A.length + B.length := List.length_append
 have hpl := Jd.ok_pl hok
 have htop := Jd.top_in (Jd.vp_val (Jd.prE_in hpr).1)
 refine ZI Try.func11 rfl (by intro X hX; simp only [List.mem_cons, List.not_mem_nil, or_false] at hX; rcases hX with rfl | rfl | rfl; exact ZD (Yo p); exact ZD (Yr q); exact ZD (Rd.plain_cg _)) (n := 48) rfl (by simp) (fun w0 => ?_)
 refine kW 48 [] [(0, .agg (cFm p)), (1, .agg (cPq q)), (2, .agg (Rd.cCg (Ct.two sh A B se fa val)))] (Zb (Za (Yl rfl (Ya (X := .agg (cFm p)) (k := 1) (.tmp 0) rfl rfl) ⟨I0, T0⟩ T0 rfl (Yl rfl (Ya (X := .agg (cPq q)) (k := 2) (.tmp 1) rfl rfl) ⟨I0, T0⟩ T0 rfl (Yl rfl (Ya (X := .agg (Rd.cCg (Ct.two sh A B se fa val))) (k := 3) (.tmp 2) rfl rfl) ⟨I0, T0⟩ T0 rfl (pM (aC (.bool false)) (pM (aC (.int .i64 0)) (kN 48 [(1, .box 27 (cFm p)), (2, .box 30 (cPq q)), (3, .box 32 (Rd.cCg (Ct.two sh A B se fa val)))] [(3, .box 1 0), (4, .box 2 0), (5, .box 3 0), (6, bv false), (7, iv 0)] (Zc (Zb (Zb ?_)))))))))))
 refine Za (oB (Zj (Y := .box 27 (cFm p)) (ds := cFm p) (z := 10) (.tmp 3) rfl U27 rfl (by kernel_rfl) (by decide) (by kernel_rfl) (by kernel_rfl)) I0 rfl (oB (Zj (Y := .box 30 (cPq q)) (ds := cPq q) (z := 6) (.tmp 4) rfl U30 rfl (by kernel_rfl) (by decide) (by kernel_rfl) (by kernel_rfl)) I0 rfl (Yl rfl (Zm (c := .func 25) (xs := #[.tmp 9, .tmp 10, .const (.int .i64 1)]) [] (propErr_c HP HQ) rfl (by kernel_rfl) rfl (Xs := [.agg (cFm p), .agg (cPq q), iv 1]) rfl rfl rfl) ⟨I0, I0, I0, I0, T0⟩ T0 T0 (pM (aT 11 (iv (Jd.prE p q 1))) (kN 48 [(1, .box 27 (cFm p)), (2, .box 30 (cPq q)), (3, .box 32 (Rd.cCg (Ct.two sh A B se fa val)))] [(3, .box 1 0), (4, .box 2 0), (5, .box 3 0), (6, bv false), (7, iv 0), (8, iv (Jd.prE p q 1))] (Zc (Zb (Za (pM (mT 8 (iv (Jd.prE p q 1))) (oC (ZE rfl (dT' hpr)) I0 I0 (kN 48 [(1, .box 27 (cFm p)), (2, .box 30 (cPq q)), (3, .box 32 (Rd.cCg (Ct.two sh A B se fa val)))] [(3, .box 1 0), (4, .box 2 0), (5, .box 3 0), (6, bv false), (7, iv 0), (8, iv (Jd.prE p q 1)), (13, bv false)] ?_)))))))))))
 refine Zc (Zn rfl (Zk (Zc (Zb (Zb ?_)))))
 by_cases hs1 : p.top = 4
 refine Za (oB (Zj (Y := .box 27 (cFm p)) (ds := cFm p) (z := 10) (.tmp 3) rfl U27 rfl (by kernel_rfl) (by decide) (by kernel_rfl) (by kernel_rfl)) I0 rfl (oB (Zj (Y := .box 32 (Rd.cCg (Ct.two sh A B se fa val))) (ds := Rd.cCg (Ct.two sh A B se fa val)) (z := 6) (.tmp 5) rfl U32 rfl (by kernel_rfl) (by decide) (by kernel_rfl) (by kernel_rfl)) I0 rfl (oD (Zm (c := .func 22) (xs := #[.tmp 15, .tmp 16]) [] (ZJ (Kp HP HC) hpl) rfl (by kernel_rfl) rfl (Xs := [.agg (cFm p), .agg (Rd.cCg (Ct.two sh A B se fa val))]) rfl rfl rfl) I0 I0 I0 (oA (ZC rfl rfl) I0 (pM (mT 18 (bv false)) (gA (fb 1 3 U27 1) I0 (gB (lb (iv p.top) 20 U3) I0 rfl (gC (ZA rfl (dT hs1)) I0 I0 (qM (mT 22 (bv true)) (gA (fb 0 5 U32 1) I0 (gB (lb (Ze sh) 24 U24) I0 rfl ?_)))))))))))
 refine gA (fb 1 5 U32 1) I0 (gB (lb (Ze (A ++ B)) 26 U24) I0 rfl (gA (Zi (.tmp 27) rfl U24) I0 (gD (Zm (c := .func 26) (xs := #[.tmp 25, .tmp 28]) [] (ZJ (isShapeJ_c HC.sh HC.lsh _) (Jd.shpY hok hs1)) rfl (by kernel_rfl) rfl (Xs := [Ze sh, iv ((A ++ B).length : Nat)]) rfl rfl rfl) I0 I0 I0 (gA (ZC rfl rfl) I0 (qP (Zf (.tmp 23) (.tmp 30) (.const (.bool false)) true (bv false) (bv false) rfl) (pP (Zf (.tmp 19) (.const (.bool true)) (.tmp 31) false (bv true) (bv false) rfl) (kN 48 [(1, .box 27 (cFm p)), (2, .box 30 (cPq q)), (3, .box 32 (Rd.cCg (Ct.two sh A B se fa val)))] [(3, .box 1 0), (4, .box 2 0), (5, .box 3 0), (6, bv false), (7, iv 0), (32, bv false)] (Zc (Zn rfl (Zk (Zc ?_)))))))))))
 refine Zb ?_
 refine ZQ (dB (Zj (Y := .box 27 (cFm p)) (ds := cFm p) (z := 10) (.tmp 3) rfl U27 rfl (by kernel_rfl) (by decide) (by kernel_rfl) (by kernel_rfl)) I0 rfl (dB (Zj (Y := .box 30 (cPq q)) (ds := cPq q) (z := 6) (.tmp 4) rfl U30 rfl (by kernel_rfl) (by decide) (by kernel_rfl) (by kernel_rfl)) I0 rfl (dA (fb 1 5 U32 1) I0 (dB (lb (Ze (A ++ B)) 35 U24) I0 rfl (dA (fb 2 5 U32 1) I0 (dB (lb (iv A.length) 37 U3) I0 rfl (dA (fb 1 3 U27 1) I0 (dB (lb (iv p.top) 39 U3) I0 rfl (dA (fb 0 5 U32 1) I0 (dB (lb (Ze sh) 41 U24) I0 rfl (dA (fb 1 5 U32 1) I0 (dB (lb (Ze (A ++ B)) 43 U24) I0 rfl (dA (Zi (.tmp 44) rfl U24) I0 (dR (Zm (c := .func 28) (xs := #[.tmp 40, .tmp 42, .tmp 45]) [] (linksA_c (top := p.top) (sh := sh) (n := (A ++ B).length) HC.sh HC.lsh hl0 (.inr (.inr ⟨hs1, Jd.shpY hok hs1⟩))) rfl (by kernel_rfl) rfl (Xs := [iv p.top, Ze sh, iv ((A ++ B).length : Nat)]) rfl rfl rfl) ⟨I0, I0, I0, I0, T0⟩ T0 T0 (dR (Zm (c := .func 27) (xs := #[.tmp 33, .tmp 34, .tmp 36, .tmp 38, .tmp 46]) [] (isBad_ad HQ hl0 hadj h2a hLk) rfl (by kernel_rfl) rfl (Xs := [.agg (cFm p), .agg (cPq q), Ze (A ++ B), iv A.length, Jd.lkA p.top sh (A ++ B).length]) rfl rfl rfl) ⟨I0, I0, I0, I0, I0, .inr (.inl rfl), T0⟩ T0 T0 (dM (aT 47 (bv (Jd.alB A q.bad && (decide (((q.adj.length : Nat) : Int) = 0) || Jd.adV p.top (Jd.adX q) (Jd.adY q) (A ++ B) (Jd.lkF p.top sh (A ++ B).length) (Jd.lkS p.top sh (A ++ B).length))))) (dM (aC (.int .i64 0)) (dE ?_)))))))))))))))))) (by kernel_rfl)
 show ETri J w0 _ _ _
 refine Zc (Zt ?_)
 refine Yt Try.results11 (.tmp rfl) (.tmp rfl) ?_
 rw [Jd.bdR_o hpr hok, Jd.bdE_o hpr hok, Jd.bdV_two]
 exact rfl
 refine Za (oB (Zj (Y := .box 27 (cFm p)) (ds := cFm p) (z := 10) (.tmp 3) rfl U27 rfl (by kernel_rfl) (by decide) (by kernel_rfl) (by kernel_rfl)) I0 rfl (oB (Zj (Y := .box 32 (Rd.cCg (Ct.two sh A B se fa val))) (ds := Rd.cCg (Ct.two sh A B se fa val)) (z := 6) (.tmp 5) rfl U32 rfl (by kernel_rfl) (by decide) (by kernel_rfl) (by kernel_rfl)) I0 rfl (oD (Zm (c := .func 22) (xs := #[.tmp 15, .tmp 16]) [] (ZJ (Kp HP HC) hpl) rfl (by kernel_rfl) rfl (Xs := [.agg (cFm p), .agg (Rd.cCg (Ct.two sh A B se fa val))]) rfl rfl rfl) I0 I0 I0 (oA (ZC rfl rfl) I0 (pM (mT 18 (bv false)) (gA (fb 1 3 U27 1) I0 (gB (lb (iv p.top) 20 U3) I0 rfl (gC (ZA rfl (dF hs1)) I0 I0 (qM (mT 22 (bv false)) (qK (qK ?_)))))))))))
 refine qK (qK (qK (qK (qK (qP (Zf (.tmp 23) (.tmp 30) (.const (.bool false)) false (.v (.tuple #[])) (bv false) rfl) (pP (Zf (.tmp 19) (.const (.bool true)) (.tmp 31) false (bv true) (bv false) rfl) (kN 48 [(1, .box 27 (cFm p)), (2, .box 30 (cPq q)), (3, .box 32 (Rd.cCg (Ct.two sh A B se fa val)))] [(3, .box 1 0), (4, .box 2 0), (5, .box 3 0), (6, bv false), (7, iv 0), (32, bv false)] (Zc (Zn rfl (Zk (Zc ?_)))))))))))
 refine Zb ?_
 refine ZQ (dB (Zj (Y := .box 27 (cFm p)) (ds := cFm p) (z := 10) (.tmp 3) rfl U27 rfl (by kernel_rfl) (by decide) (by kernel_rfl) (by kernel_rfl)) I0 rfl (dB (Zj (Y := .box 30 (cPq q)) (ds := cPq q) (z := 6) (.tmp 4) rfl U30 rfl (by kernel_rfl) (by decide) (by kernel_rfl) (by kernel_rfl)) I0 rfl (dA (fb 1 5 U32 1) I0 (dB (lb (Ze (A ++ B)) 35 U24) I0 rfl (dA (fb 2 5 U32 1) I0 (dB (lb (iv A.length) 37 U3) I0 rfl (dA (fb 1 3 U27 1) I0 (dB (lb (iv p.top) 39 U3) I0 rfl (dA (fb 0 5 U32 1) I0 (dB (lb (Ze sh) 41 U24) I0 rfl (dA (fb 1 5 U32 1) I0 (dB (lb (Ze (A ++ B)) 43 U24) I0 rfl (dA (Zi (.tmp 44) rfl U24) I0 (dR (Zm (c := .func 28) (xs := #[.tmp 40, .tmp 42, .tmp 45]) [] (linksA_c (top := p.top) (sh := sh) (n := (A ++ B).length) HC.sh HC.lsh hl0 (by omega)) rfl (by kernel_rfl) rfl (Xs := [iv p.top, Ze sh, iv ((A ++ B).length : Nat)]) rfl rfl rfl) ⟨I0, I0, I0, I0, T0⟩ T0 T0 (dR (Zm (c := .func 27) (xs := #[.tmp 33, .tmp 34, .tmp 36, .tmp 38, .tmp 46]) [] (isBad_ad HQ hl0 hadj h2a hLk) rfl (by kernel_rfl) rfl (Xs := [.agg (cFm p), .agg (cPq q), Ze (A ++ B), iv A.length, Jd.lkA p.top sh (A ++ B).length]) rfl rfl rfl) ⟨I0, I0, I0, I0, I0, .inr (.inl rfl), T0⟩ T0 T0 (dM (aT 47 (bv (Jd.alB A q.bad && (decide (((q.adj.length : Nat) : Int) = 0) || Jd.adV p.top (Jd.adX q) (Jd.adY q) (A ++ B) (Jd.lkF p.top sh (A ++ B).length) (Jd.lkS p.top sh (A ++ B).length))))) (dM (aC (.int .i64 0)) (dE ?_)))))))))))))))))) (by kernel_rfl)
 show ETri J w0 _ _ _
 refine Zc (Zt ?_)
 refine Yt Try.results11 (.tmp rfl) (.tmp rfl) ?_
 rw [Jd.bdR_o hpr hok, Jd.bdE_o hpr hok, Jd.bdV_two]
 exact rfl
theorem Bad_c {p : Fm} (HP : FmOk p) {q : Pq} (HQ : PqOk q) {c : Cf} (HC : Rd.CgOk c) : Ctr Try.prog J 11 [.agg (cFm p), .agg (cPq q), .agg (Rd.cCg c)] (.tup [bv (Jd.bdR p q c), iv (Jd.bdE p q c)]) := by
  by_cases hpr : Jd.prE p q 1 = 0
  · by_cases hok : Jd.okB p c = true
    · obtain ⟨sh, A, B, se, fa, val, rfl⟩ := Ct.pl_two (Jd.ok_pl hok)
      by_cases hadj : ((q.adj.length : Nat) : Int) = 0
      · exact Bad_no HP HQ HC hpr hok hadj
      have h := Jd.adj_in hpr hadj
      have htop := Jd.top_in (Jd.vp_val (Jd.prE_in hpr).1)
      refine Bad_ad HP HQ HC hpr hok hadj h.2 h.1 ?_
      by_cases h4 : p.top = 4
      · have hs := Jd.shpY hok h4
        unfold isShp at hs
        simp only [Bool.and_eq_true, decide_eq_true_eq] at hs
        obtain ⟨h5, h6⟩ := hs
        have h7 : sh.length = (A ++ B).length := by
          have : ((sh.length : Nat) : Int) = (((A ++ B).length : Nat) : Int) := h5
          omega
        rw [h4, ← h7]
        exact Jd.lk_tree h6
      exact Jd.lk_row (by omega)
    exact Bad_err HP HQ HC fun _ => by simpa using hok
  exact Bad_err HP HQ HC fun h => absurd h hpr
end Go.Proofs.Ytoefmdjgnabgfaa

namespace Go.Proofs.Ytoefmdjgnabgfaa
set_option maxRecDepth 100000
set_option maxHeartbeats 6400000
open Go.RowKit Go.Deep
variable {J : World → Prop}
theorem goal_c {q : Pq} (hg : q.goal.length ≤ 9223372036854775807) {x : Int} : Ctr Try.prog J 59 [iv x, .el ((cPq q)) 0] (bv (!decide (x ∈ q.goal))) := by
 refine ZI Try.func59 rfl (by intro X hX; simp only [List.mem_cons, List.not_mem_nil, or_false] at hX; rcases hX with rfl | rfl; exact .v _; exact .el (YH (Yr q))) (n := 9) rfl (by simp) (fun w0 => ?_)
 refine kW 9 [] [(0, iv x), (1, .el ((cPq q)) 0)] (Zb (Za (pM (aC (.bool false)) (kN 9 [] [(0, iv x), (1, .el ((cPq q)) 0), (3, bv false)] (Zc (Zb (Za (oA (Z4 (off' := 5) (.tmp 1) rfl U30 rfl (z := 1) (by kernel_rfl) (by decide) rfl) I0 (oA (Zp (X := Ze q.goal) (.tmp 4) rfl U24 rfl rfl) I0 (pM (mT 0 (iv x)) (oD (Zm (c := .func 56) (xs := #[.tmp 5, .tmp 6]) [] (Y0 q.goal x hg) rfl (by kernel_rfl) rfl (Xs := [Ze q.goal, iv x]) rfl rfl rfl) I0 I0 I0 ?_)))))))))))
 refine oA (ZC rfl rfl) I0 (pM (aT 8 (bv (!(decide (x ∈ q.goal))))) (Zv (Zc (Zt ?_))))
 refine Zr Try.results59 (.tmp rfl) ?_
 exact rfl
theorem ixGoal_c (xs : List Int) {q : Pq} (hg : q.goal.length ≤ 9223372036854775807) (lx : xs.length ≤ 9223372036854775807) : Ctr Try.prog J 87 [Ze xs, .clo 59 [.el ((cPq q)) 0]] (iv (Rd.ixP xs (fun x => !decide (x ∈ q.goal)))) := by
 refine ZI Try.func87 rfl (by intro X hX; simp only [List.mem_cons, List.not_mem_nil, or_false] at hX; rcases hX with rfl | rfl; exact Z5 _; exact .clo (fun j hj => match j, hj with | 0, _ => .el (YH (Yr q)))) (n := 19) rfl (by simp) (fun w0 => ?_)
 refine kW 19 [] [(0, Ze xs), (1, .clo 59 [.el ((cPq q)) 0])] (Zb (Za (pM (aC (.int .i64 0)) (kN 19 [] [(0, Ze xs), (1, .clo 59 [.el ((cPq q)) 0]), (4, iv 0)] (Zc (Zb (Zb (Za (pM (mT 0 (Ze xs)) (oA (Zi (.tmp 6) rfl U24) I0 (pM (Y5 (.const (.int .i64 0)) (iv 0) rfl) ?_)))))))))))
 refine kN 19 [] [(0, Ze xs), (1, .clo 59 [.el ((cPq q)) 0]), (4, iv 0), (7, iv xs.length), (8, iv 0)] (Zc (Zz ?_))
 refine Yb (σ := {k : Nat // k ≤ xs.length ∧ Rd.noP xs (fun x => !decide (x ∈ q.goal)) k}) (fun s => (ofL [], ofT 19 [(0, Ze xs), (1, .clo 59 [.el ((cPq q)) 0]), (7, iv xs.length), (8, iv s.1)])) (fun s => xs.length - s.1) ⟨0, Nat.zero_le _, Rd.noP_zero _ _⟩ (Zw [] _ rfl (by kernel_rfl) (by kernel_rfl)) (fun s => ?_)
 obtain ⟨k, hk0, hs0⟩ := s
 show ETri J w0 (ofL []) (ofT 19 [(0, Ze xs), (1, .clo 59 [.el ((cPq q)) 0]), (7, iv xs.length), (8, iv k)]) _
 refine Zb ?_
 by_cases hs1 : ((k : Nat) : Int) < ((xs.length : Nat) : Int)
 refine Za (oC (ZT rfl (dT hs1)) I0 I0 (kN 19 [] [(0, Ze xs), (1, .clo 59 [.el ((cPq q)) 0]), (7, iv xs.length), (8, iv k), (9, bv true)] (Zc (Zb (Zu rfl (Zk (Zc (Zb (Zz (Zb (Za ?_)))))))))))
 refine pM (mT 8 (iv k)) (pM (aT 10 (iv k)) (kN 19 [] [(0, Ze xs), (1, .clo 59 [.el ((cPq q)) 0]), (5, iv k), (7, iv xs.length), (8, iv k), (9, bv true)] (Zc (Zb ?_))))
 by_cases hs2 : (!decide (xs[k] ∈ q.goal)) = true
 refine Za (pM (mT 1 (.clo 59 [.el ((cPq q)) 0])) (pM (mT 0 (Ze xs)) (pM (mT 5 (iv k)) (oC (Zo (off := k * 1) (.tmp 12) (.tmp 13) rfl U24 (by kernel_rfl) (by omega) (by omega) rfl) I0 I0 (oA (Zp (X := iv xs[k]) (.tmp 14) rfl U3 rfl (ZN xs (by omega))) I0 (oC (sp_callClo (c := .tmp 11) (xs := #[.tmp 15]) (Cs := [.el ((cPq q)) 0]) [] (ZJ (goal_c hg) hs2) rfl (by kernel_rfl) rfl (Xs := [iv xs[k]]) rfl rfl rfl rfl rfl) I0 I0 (kN 19 [] [(0, Ze xs), (1, .clo 59 [.el ((cPq q)) 0]), (5, iv k), (7, iv xs.length), (8, iv k), (9, bv true), (16, bv true)] (Zc (Zu rfl (Zb (Za ?_)))))))))))
 refine pM (mT 5 (iv k)) (pM (aT 17 (iv k)) (Zv (Zc (Zt (Zq (Zd (Zd (Zq (Zd ?_)))))))))
 refine Zr Try.results87 (.tmp rfl) ?_
 exact congrArg (fun x : Int => AV.v (.int .i64 x)) ((Rd.ixP_at (by omega) hs0 hs2).symm)
 have hs2f : (!decide (xs[k] ∈ q.goal)) = false := by simpa using hs2
 refine Za (pM (mT 1 (.clo 59 [.el ((cPq q)) 0])) (pM (mT 0 (Ze xs)) (pM (mT 5 (iv k)) (oC (Zo (off := k * 1) (.tmp 12) (.tmp 13) rfl U24 (by kernel_rfl) (by omega) (by omega) rfl) I0 I0 (oA (Zp (X := iv xs[k]) (.tmp 14) rfl U3 rfl (ZN xs (by omega))) I0 (oC (sp_callClo (c := .tmp 11) (xs := #[.tmp 15]) (Cs := [.el ((cPq q)) 0]) [] (ZJ (goal_c hg) hs2f) rfl (by kernel_rfl) rfl (Xs := [iv xs[k]]) rfl rfl rfl rfl rfl) I0 I0 (kN 19 [] [(0, Ze xs), (1, .clo 59 [.el ((cPq q)) 0]), (5, iv k), (7, iv xs.length), (8, iv k), (9, bv true), (16, bv false)] (Zc (Zn rfl (Zk (ZU ?_)))))))))))
 refine Zc (Za (oC (ZV (c := ((k + 1 : Nat) : Int)) rfl (w64 (by omega) (by omega) (by omega))) I0 I0 (pM (mT 18 (iv (k + 1 : Nat))) (kN 19 [] [(0, Ze xs), (1, .clo 59 [.el ((cPq q)) 0]), (5, iv k), (7, iv xs.length), (8, iv (k + 1 : Nat)), (9, bv true), (16, bv false)] (Zc ?_)))))
 refine ZH ⟨k + 1, by omega, Rd.noP_succ (by omega) hs0 hs2f⟩ (show xs.length - (k + 1) < xs.length - k by omega) ?_
 exact Zw [] _ rfl (by kernel_rfl) (by kernel_rfl)
 refine Za (oC (ZT rfl (dF hs1)) I0 I0 (kN 19 [] [(0, Ze xs), (1, .clo 59 [.el ((cPq q)) 0]), (7, iv xs.length), (8, iv k), (9, bv false)] (Zc (Zb (Zn rfl (Z8 (Zx (Zx (YN (Zc (Zb ?_)))))))))))
 refine Za (pM (aC (.int .i64 (-1))) (Zv (Zc (Zt ?_))))
 refine Zr Try.results87 (.tmp rfl) ?_
 exact congrArg (fun x : Int => AV.v (.int .i64 x)) ((Rd.ixP_none (k := k) (by omega) hs0).symm)
theorem hasGoal_c (xs : List Int) {q : Pq} (hg : q.goal.length ≤ 9223372036854775807) (lx : xs.length ≤ 9223372036854775807) : Ctr Try.prog J 58 [Ze xs, .clo 59 [.el ((cPq q)) 0]] (bv (xs.any (fun x => !decide (x ∈ q.goal)))) := by
 refine ZI Try.func58 rfl (by intro X hX; simp only [List.mem_cons, List.not_mem_nil, or_false] at hX; rcases hX with rfl | rfl; exact Z5 _; exact .clo (fun j hj => match j, hj with | 0, _ => .el (YH (Yr q)))) (n := 9) rfl (by simp) (fun w0 => ?_)
 refine kW 9 [] [(0, Ze xs), (1, .clo 59 [.el ((cPq q)) 0])] (Zb (Za (pM (aC (.bool false)) (kN 9 [] [(0, Ze xs), (1, .clo 59 [.el ((cPq q)) 0]), (4, bv false)] (Zc (Zb (Za (pM (mT 0 (Ze xs)) (pM (mT 1 (.clo 59 [.el ((cPq q)) 0])) (oD (Zm (c := .func 87) (xs := #[.tmp 5, .tmp 6]) [] (ixGoal_c xs hg lx) rfl (by kernel_rfl) rfl (Xs := [Ze xs, .clo 59 [.el ((cPq q)) 0]]) rfl rfl rfl) I0 I0 I0 (oC (Y9 rfl rfl) I0 I0 ?_)))))))))))
 refine pM (aT 8 (bv (decide (0 ≤ (Rd.ixP xs (fun x => !decide (x ∈ q.goal))))))) (Zv (Zc (Zt ?_)))
 refine Zr Try.results58 (.tmp rfl) ?_
 exact congrArg (fun x : Bool => AV.v (.bool x)) (Rd.anyP_ix xs (fun x => !decide (x ∈ q.goal)))
theorem isReached_c (xs : List Int) {q : Pq} (hg : q.goal.length ≤ 9223372036854775807) (lx : xs.length ≤ 9223372036854775807) : Ctr Try.prog J 29 [.agg (cPq q), Ze xs] (bv (Jd.glB xs q.goal)) := by
 refine ZI Try.func29 rfl (by intro X hX; simp only [List.mem_cons, List.not_mem_nil, or_false] at hX; rcases hX with rfl | rfl; exact ZD (Yr q); exact Z5 _) (n := 9) rfl (by simp) (fun w0 => ?_)
 refine kW 9 [] [(0, .agg (cPq q)), (1, Ze xs)] (Zb (Za (Yl rfl (Ya (X := .agg (cPq q)) (k := 1) (.tmp 0) rfl rfl) ⟨I0, T0⟩ T0 rfl (pM (aC (.bool false)) (kN 9 [(1, .box 30 (cPq q))] [(1, Ze xs), (2, .box 1 0), (4, bv false)] (Zc (Zb (Za (pM (mT 1 (Ze xs)) (oA (sp_makeFunc (xs := #[.tmp 2]) (Xs := [.box 1 0]) rfl rfl) I0 (Yl rfl (Zm (c := .func 58) (xs := #[.tmp 5, .tmp 6]) [(1, .box 30 (cPq q))] (hasGoal_c xs hg lx) rfl (by kernel_rfl) rfl (Xs := [Ze xs, .clo 59 [.box 1 0]]) rfl rfl rfl) ⟨I0, I0, I0, T0⟩ ⟨rfl, T0⟩ T0 ?_)))))))))))
 refine oA (ZC rfl rfl) I0 (pM (aT 8 (bv (!(xs.any (fun x => !decide (x ∈ q.goal)))))) (Zv (Zc (Zt ?_))))
 refine Zr Try.results29 (.tmp rfl) ?_
 exact rfl
theorem Reached_err {p : Fm} (HP : FmOk p) {q : Pq} (HQ : PqOk q) {c : Cf} (HC : Rd.CgOk c) (hn : Jd.prE p q 2 = 0 → Ct.plB p c = false) : Ctr Try.prog J 12 [.agg (cFm p), .agg (cPq q), .agg (Rd.cCg c)] (.tup [bv (Jd.rcR p q c), iv (Jd.rcE p q c)]) := by
 have l1 := HP.lstates
 have l2 := HC.lst
 refine ZI Try.func12 rfl (by intro X hX; simp only [List.mem_cons, List.not_mem_nil, or_false] at hX; rcases hX with rfl | rfl | rfl; exact ZD (Yo p); exact ZD (Yr q); exact ZD (Rd.plain_cg c)) (n := 26) rfl (by simp) (fun w0 => ?_)
 refine kW 26 [] [(0, .agg (cFm p)), (1, .agg (cPq q)), (2, .agg (Rd.cCg c))] (Zb (Za (Yl rfl (Ya (X := .agg (cFm p)) (k := 1) (.tmp 0) rfl rfl) ⟨I0, T0⟩ T0 rfl (Yl rfl (Ya (X := .agg (cPq q)) (k := 2) (.tmp 1) rfl rfl) ⟨I0, T0⟩ T0 rfl (Yl rfl (Ya (X := .agg (Rd.cCg c)) (k := 3) (.tmp 2) rfl rfl) ⟨I0, T0⟩ T0 rfl (pM (aC (.bool false)) (pM (aC (.int .i64 0)) (kN 26 [(1, .box 27 (cFm p)), (2, .box 30 (cPq q)), (3, .box 32 (Rd.cCg c))] [(3, .box 1 0), (4, .box 2 0), (5, .box 3 0), (6, bv false), (7, iv 0)] (Zc (Zb (Zb ?_)))))))))))
 refine Za (oB (Zj (Y := .box 27 (cFm p)) (ds := cFm p) (z := 10) (.tmp 3) rfl U27 rfl (by kernel_rfl) (by decide) (by kernel_rfl) (by kernel_rfl)) I0 rfl (oB (Zj (Y := .box 30 (cPq q)) (ds := cPq q) (z := 6) (.tmp 4) rfl U30 rfl (by kernel_rfl) (by decide) (by kernel_rfl) (by kernel_rfl)) I0 rfl (Yl rfl (Zm (c := .func 25) (xs := #[.tmp 9, .tmp 10, .const (.int .i64 2)]) [] (propErr_c HP HQ) rfl (by kernel_rfl) rfl (Xs := [.agg (cFm p), .agg (cPq q), iv 2]) rfl rfl rfl) ⟨I0, I0, I0, I0, T0⟩ T0 T0 (pM (aT 11 (iv (Jd.prE p q 2))) (kN 26 [(1, .box 27 (cFm p)), (2, .box 30 (cPq q)), (3, .box 32 (Rd.cCg c))] [(3, .box 1 0), (4, .box 2 0), (5, .box 3 0), (6, bv false), (7, iv 0), (8, iv (Jd.prE p q 2))] (Zc (Zb ?_)))))))
 by_cases hs1 : Jd.prE p q 2 = 0
 refine Za (pM (mT 8 (iv (Jd.prE p q 2))) (oC (ZE rfl (dT' hs1)) I0 I0 (kN 26 [(1, .box 27 (cFm p)), (2, .box 30 (cPq q)), (3, .box 32 (Rd.cCg c))] [(3, .box 1 0), (4, .box 2 0), (5, .box 3 0), (6, bv false), (7, iv 0), (8, iv (Jd.prE p q 2)), (13, bv false)] (Zc (Zn rfl (Zk (Zc (Zb (Zb (Za (oB (Zj (Y := .box 27 (cFm p)) (ds := cFm p) (z := 10) (.tmp 3) rfl U27 rfl (by kernel_rfl) (by decide) (by kernel_rfl) (by kernel_rfl)) I0 rfl ?_)))))))))))
 refine oB (Zj (Y := .box 32 (Rd.cCg c)) (ds := Rd.cCg c) (z := 6) (.tmp 5) rfl U32 rfl (by kernel_rfl) (by decide) (by kernel_rfl) (by kernel_rfl)) I0 rfl (oD (Zm (c := .func 22) (xs := #[.tmp 15, .tmp 16]) [] (ZJ (Kp HP HC) (hn hs1)) rfl (by kernel_rfl) rfl (Xs := [.agg (cFm p), .agg (Rd.cCg c)]) rfl rfl rfl) I0 I0 I0 (oA (ZC rfl rfl) I0 (kN 26 [(2, .box 30 (cPq q)), (3, .box 32 (Rd.cCg c))] [(4, .box 2 0), (5, .box 3 0), (6, bv false), (7, iv 0), (18, bv true)] (Zc (Zu rfl (Zb (Za (pM (aC (.bool false)) (pM (aC (.int .i64 1)) (Zv (Zc ?_)))))))))))
 refine Zt (Zd ?_)
 refine Yt Try.results12 (.tmp rfl) (.tmp rfl) ?_
 rw [Jd.rcR_n hs1 (hn hs1), Jd.rcE_n hs1 (hn hs1)]
 exact rfl
 refine Za (pM (mT 8 (iv (Jd.prE p q 2))) (oC (ZE rfl (dF' hs1)) I0 I0 (kN 26 [(1, .box 27 (cFm p)), (2, .box 30 (cPq q)), (3, .box 32 (Rd.cCg c))] [(3, .box 1 0), (4, .box 2 0), (5, .box 3 0), (6, bv false), (7, iv 0), (8, iv (Jd.prE p q 2)), (13, bv true)] (Zc (Zu rfl (Zb (Za (pM (mT 8 (iv (Jd.prE p q 2))) (pM (aC (.bool false)) (pM (aT 14 (iv (Jd.prE p q 2))) (Zv ?_)))))))))))
 refine Zc (Zt (Zd ?_))
 refine Yt Try.results12 (.tmp rfl) (.tmp rfl) ?_
 rw [Jd.rcR_p hs1, Jd.rcE_p hs1]
 exact rfl
theorem Reached_ok {p : Fm} (HP : FmOk p) {q : Pq} (HQ : PqOk q) {sh A B se fa : List Int} {val : Int} (HC : Rd.CgOk (Ct.two sh A B se fa val)) (hpr : Jd.prE p q 2 = 0) (hpl : Ct.plB p (Ct.two sh A B se fa val) = true) : Ctr Try.prog J 12 [.agg (cFm p), .agg (cPq q), .agg (Rd.cCg (Ct.two sh A B se fa val))] (.tup [bv (Jd.rcR p q (Ct.two sh A B se fa val)), iv (Jd.rcE p q (Ct.two sh A B se fa val))]) := by
 have hl0 : (A ++ B).length ≤ 100 := HC.lst
 have hl2 : (A ++ B).length = A.length + B.length := List.length_append
 refine ZI Try.func12 rfl (by intro X hX; simp only [List.mem_cons, List.not_mem_nil, or_false] at hX; rcases hX with rfl | rfl | rfl; exact ZD (Yo p); exact ZD (Yr q); exact ZD (Rd.plain_cg _)) (n := 26) rfl (by simp) (fun w0 => ?_)
 refine kW 26 [] [(0, .agg (cFm p)), (1, .agg (cPq q)), (2, .agg (Rd.cCg (Ct.two sh A B se fa val)))] (Zb (Za (Yl rfl (Ya (X := .agg (cFm p)) (k := 1) (.tmp 0) rfl rfl) ⟨I0, T0⟩ T0 rfl (Yl rfl (Ya (X := .agg (cPq q)) (k := 2) (.tmp 1) rfl rfl) ⟨I0, T0⟩ T0 rfl (Yl rfl (Ya (X := .agg (Rd.cCg (Ct.two sh A B se fa val))) (k := 3) (.tmp 2) rfl rfl) ⟨I0, T0⟩ T0 rfl (pM (aC (.bool false)) (pM (aC (.int .i64 0)) (kN 26 [(1, .box 27 (cFm p)), (2, .box 30 (cPq q)), (3, .box 32 (Rd.cCg (Ct.two sh A B se fa val)))] [(3, .box 1 0), (4, .box 2 0), (5, .box 3 0), (6, bv false), (7, iv 0)] (Zc (Zb (Zb ?_)))))))))))
 refine Za (oB (Zj (Y := .box 27 (cFm p)) (ds := cFm p) (z := 10) (.tmp 3) rfl U27 rfl (by kernel_rfl) (by decide) (by kernel_rfl) (by kernel_rfl)) I0 rfl (oB (Zj (Y := .box 30 (cPq q)) (ds := cPq q) (z := 6) (.tmp 4) rfl U30 rfl (by kernel_rfl) (by decide) (by kernel_rfl) (by kernel_rfl)) I0 rfl (Yl rfl (Zm (c := .func 25) (xs := #[.tmp 9, .tmp 10, .const (.int .i64 2)]) [] (propErr_c HP HQ) rfl (by kernel_rfl) rfl (Xs := [.agg (cFm p), .agg (cPq q), iv 2]) rfl rfl rfl) ⟨I0, I0, I0, I0, T0⟩ T0 T0 (pM (aT 11 (iv (Jd.prE p q 2))) (kN 26 [(1, .box 27 (cFm p)), (2, .box 30 (cPq q)), (3, .box 32 (Rd.cCg (Ct.two sh A B se fa val)))] [(3, .box 1 0), (4, .box 2 0), (5, .box 3 0), (6, bv false), (7, iv 0), (8, iv (Jd.prE p q 2))] (Zc (Zb (Za (pM (mT 8 (iv (Jd.prE p q 2))) (oC (ZE rfl (dT' hpr)) I0 I0 (kN 26 [(1, .box 27 (cFm p)), (2, .box 30 (cPq q)), (3, .box 32 (Rd.cCg (Ct.two sh A B se fa val)))] [(3, .box 1 0), (4, .box 2 0), (5, .box 3 0), (6, bv false), (7, iv 0), (8, iv (Jd.prE p q 2)), (13, bv false)] ?_)))))))))))
 refine Zc (Zn rfl (Zk (Zc (Zb (Zb (Za (oB (Zj (Y := .box 27 (cFm p)) (ds := cFm p) (z := 10) (.tmp 3) rfl U27 rfl (by kernel_rfl) (by decide) (by kernel_rfl) (by kernel_rfl)) I0 rfl (oB (Zj (Y := .box 32 (Rd.cCg (Ct.two sh A B se fa val))) (ds := Rd.cCg (Ct.two sh A B se fa val)) (z := 6) (.tmp 5) rfl U32 rfl (by kernel_rfl) (by decide) (by kernel_rfl) (by kernel_rfl)) I0 rfl (oD (Zm (c := .func 22) (xs := #[.tmp 15, .tmp 16]) [] (ZJ (Kp HP HC) hpl) rfl (by kernel_rfl) rfl (Xs := [.agg (cFm p), .agg (Rd.cCg (Ct.two sh A B se fa val))]) rfl rfl rfl) I0 I0 I0 (oA (ZC rfl rfl) I0 (kN 26 [(2, .box 30 (cPq q)), (3, .box 32 (Rd.cCg (Ct.two sh A B se fa val)))] [(4, .box 2 0), (5, .box 3 0), (6, bv false), (7, iv 0), (18, bv false)] ?_)))))))))))
 refine Zc (Zn rfl (Zk (Zc (Zb ?_))))
 refine ZQ (dB (Zj (Y := .box 30 (cPq q)) (ds := cPq q) (z := 6) (.tmp 4) rfl U30 rfl (by kernel_rfl) (by decide) (by kernel_rfl) (by kernel_rfl)) I0 rfl (dA (fb 1 5 U32 1) I0 (dB (lb (Ze (A ++ B)) 20 U24) I0 rfl (dA (fb 2 5 U32 1) I0 (dB (lb (iv A.length) 22 U3) I0 rfl (dC (KR (l := 0) (h := A.length) (ds := (A.map iv)) (.tmp 21) none (some (.tmp 23)) rfl U24 (by kernel_rfl) [] [(.tmp 23, iv A.length)] (.inl ⟨rfl, rfl, rfl⟩) (.inr ⟨_, _, rfl, rfl⟩) (Nat.zero_le _) (by omega) (by simp)) I0 I0 (dD (Zm (c := .func 29) (xs := #[.tmp 19, .tmp 24]) [] (isReached_c A HQ.lgoal (by omega)) rfl (by kernel_rfl) rfl (Xs := [.agg (cPq q), Ze A]) rfl rfl rfl) I0 I0 I0 (dM (aT 25 (bv (Jd.glB A q.goal))) (dM (aC (.int .i64 0)) (dE ?_)))))))))) (by kernel_rfl)
 show ETri J w0 _ _ _
 refine Zc (Zt ?_)
 refine Yt Try.results12 (.tmp rfl) (.tmp rfl) ?_
 rw [Jd.rc_two hpr hpl, Jd.rcE_o hpr hpl]
 exact rfl
theorem Reached_c {p : Fm} (HP : FmOk p) {q : Pq} (HQ : PqOk q) {c : Cf} (HC : Rd.CgOk c) : Ctr Try.prog J 12 [.agg (cFm p), .agg (cPq q), .agg (Rd.cCg c)] (.tup [bv (Jd.rcR p q c), iv (Jd.rcE p q c)]) := by
  by_cases hpr : Jd.prE p q 2 = 0
  · by_cases hok : Ct.plB p c = true
    · obtain ⟨sh, A, B, se, fa, val, rfl⟩ := Ct.pl_two hok
      exact Reached_ok HP HQ HC hpr hok
    exact Reached_err HP HQ HC fun _ => by simpa using hok
  exact Reached_err HP HQ HC fun h => absurd h hpr
end Go.Proofs.Ytoefmdjgnabgfaa

namespace Go.Proofs.Ytoefmdjgnabgfaa
open Go.RowKit Go.Deep Go.ChangeShapes Go.WideShapes Go.ChangeAt Go.Joins
theorem Kz : Try.prog.cellsOf 3 = 1 := by kernel_rfl
theorem zcells_ints : Try.prog.cellsOf 24 = 1 := by kernel_rfl
set_option maxRecDepth 100000 in
theorem zint_of_trod {H : Type} {enc : TypeId × Value → H} {w : World} {base : Nat} {sp : Nat → Bool} {held : Bool} {n : Nat} {v : Value} {x : DataW H × List MemPlace} (h : DataW.trod enc Try.prog w base sp held n 3 [v] = some x) : ∃ c, v = .int .i64 c ∧ I64 c := by
  obtain ⟨c, e1, _, e3⟩ := DataW.trod_int Try.underlying3 h
  simp at e1
  exact ⟨c, e1, I64.of_wf e3⟩
end Go.Proofs.Ytoefmdjgnabgfaa

namespace Go.Proofs.Ytoefmdjgnabgfaa
open Go.RowKit Go.Deep Go.ChangeShapes Go.WideShapes Go.ChangeAt Go.Joins
theorem cells_cfg : Try.prog.cellsOf 32 = 6 := by kernel_rfl
set_option maxRecDepth 100000 in
theorem cfg_of_trod {H : Type} {enc : TypeId × Value → H} {w : World} {base : Nat} {sp : Nat → Bool} {held : Bool} {n : Nat} {cs : List Value} {x : DataW H × List MemPlace} (h : DataW.trod enc Try.prog w base sp held n 32 cs = some x) :
    ∃ u0 xs0 u1 xs1 c2 u3 xs3 u4 xs4 c5, cs = [u0, u1, .int .i64 c2, u3, u4, .int .i64 c5] ∧ IsInts 0 w u0 xs0 ∧ IsInts 0 w u1 xs1 ∧ I64 c2 ∧ IsInts 0 w u3 xs3 ∧ IsInts 0 w u4 xs4 ∧ I64 c5 := by
  obtain ⟨ys, m, _, _, hlen, _, hf⟩ := DataW.trod_struct Try.underlying32 h
  rw [cells_cfg] at hlen
  match cs, hlen with
  | [v0, v1, v2, v3, v4, v5], _ =>
    have h0 : DataW.trod enc Try.prog w base sp held m 24 (([v0, v1, v2, v3, v4, v5].drop 0).take (Try.prog.cellsOf 24)) = ys[0]? := hf 0 _ rfl
    rw [zcells_ints] at h0
    simp only [List.drop_zero, List.take_succ_cons, List.take_zero] at h0
    have h1 : DataW.trod enc Try.prog w base sp held m 24 (([v0, v1, v2, v3, v4, v5].drop 1).take (Try.prog.cellsOf 24)) = ys[1]? := hf 1 _ rfl
    rw [zcells_ints] at h1
    simp only [List.drop_succ_cons, List.drop_zero, List.take_succ_cons, List.take_zero] at h1
    have h2 : DataW.trod enc Try.prog w base sp held m 3 (([v0, v1, v2, v3, v4, v5].drop 2).take (Try.prog.cellsOf 3)) = ys[2]? := hf 2 _ rfl
    rw [Kz] at h2
    simp only [List.drop_succ_cons, List.drop_zero, List.take_succ_cons, List.take_zero] at h2
    have h3 : DataW.trod enc Try.prog w base sp held m 24 (([v0, v1, v2, v3, v4, v5].drop 3).take (Try.prog.cellsOf 24)) = ys[3]? := hf 3 _ rfl
    rw [zcells_ints] at h3
    simp only [List.drop_succ_cons, List.drop_zero, List.take_succ_cons, List.take_zero] at h3
    have h4 : DataW.trod enc Try.prog w base sp held m 24 (([v0, v1, v2, v3, v4, v5].drop 4).take (Try.prog.cellsOf 24)) = ys[4]? := hf 4 _ rfl
    rw [zcells_ints] at h4
    simp only [List.drop_succ_cons, List.drop_zero, List.take_succ_cons, List.take_zero] at h4
    have h5 : DataW.trod enc Try.prog w base sp held m 3 (([v0, v1, v2, v3, v4, v5].drop 5).take (Try.prog.cellsOf 3)) = ys[5]? := hf 5 _ rfl
    rw [Kz] at h5
    simp only [List.drop_succ_cons, List.drop_zero, List.take_succ_cons, List.take_zero] at h5
    have hx : ∀ i, i < 6 → ∃ y, ys[i]? = some y := fun i hi => ⟨ys[i]'(by simp at *; omega), List.getElem?_eq_getElem _⟩
    obtain ⟨y0, e0⟩ := hx 0 (by omega)
    rw [e0] at h0
    obtain ⟨xs0, q0⟩ := Yf Try.underlying24 Try.underlying3 Kz h0
    obtain ⟨y1, e1⟩ := hx 1 (by omega)
    rw [e1] at h1
    obtain ⟨xs1, q1⟩ := Yf Try.underlying24 Try.underlying3 Kz h1
    obtain ⟨y2, e2⟩ := hx 2 (by omega)
    rw [e2] at h2
    obtain ⟨c2, rfl, q2⟩ := zint_of_trod h2
    obtain ⟨y3, e3⟩ := hx 3 (by omega)
    rw [e3] at h3
    obtain ⟨xs3, q3⟩ := Yf Try.underlying24 Try.underlying3 Kz h3
    obtain ⟨y4, e4⟩ := hx 4 (by omega)
    rw [e4] at h4
    obtain ⟨xs4, q4⟩ := Yf Try.underlying24 Try.underlying3 Kz h4
    obtain ⟨y5, e5⟩ := hx 5 (by omega)
    rw [e5] at h5
    obtain ⟨c5, rfl, q5⟩ := zint_of_trod h5
    exact ⟨v0, xs0, v1, xs1, c2, v3, xs3, v4, xs4, c5, rfl, q0, q1, q2, q3, q4, q5⟩
set_option maxRecDepth 100000 in
theorem arg_cfg {H : Type} {enc : TypeId × Value → H} {w : World} {r : Reach} {b0 : Nat} {v : Value} {d : DataW H} {p : List MemPlace} (hv : Value.okWide Try.prog w r b0 32 v) (h : DataW.Trod enc Try.prog w 0 (fun _ => true) true 32 v d p) :
    ∃ u0 xs0 u1 xs1 c2 u3 xs3 u4 xs4 c5, v = .agg #[u0, u1, .int .i64 c2, u3, u4, .int .i64 c5] ∧ IsInts 0 w u0 xs0 ∧ IsInts 0 w u1 xs1 ∧ I64 c2 ∧ IsInts 0 w u3 xs3 ∧ IsInts 0 w u4 xs4 ∧ I64 c5 := by
  obtain ⟨cs, rfl, _⟩ := okWide_struct Try.underlying32 hv
  obtain ⟨fuel, hf⟩ := h
  obtain ⟨u0, xs0, u1, xs1, c2, u3, xs3, u4, xs4, c5, e, q⟩ := cfg_of_trod hf
  have e2 : cs = #[u0, u1, .int .i64 c2, u3, u4, .int .i64 c5] := by obtain ⟨l⟩ := cs; simp [Value.cells] at e; simpa using e
  exact ⟨u0, xs0, u1, xs1, c2, u3, xs3, u4, xs4, c5, by rw [e2], q⟩
end Go.Proofs.Ytoefmdjgnabgfaa

namespace Go.Proofs.Ytoefmdjgnabgfaa
open Go.RowKit Go.Deep Go.ChangeShapes Go.WideShapes Go.ChangeAt Go.Joins
end Go.Proofs.Ytoefmdjgnabgfaa

namespace Go.Proofs.Ytoefmdjgnabgfaa
open Go.RowKit Go.Deep
def wideCf (q : Cf) : Bool := decide (100 < q.sh.length) || decide (100 < q.st.length) || decide (100 < q.se.length) || decide (100 < q.fa.length)
set_option maxHeartbeats 800000 in
theorem Wide_any {lo : Nat} {w : World} {v : Value} {q : Cf} (h : IsCf lo w v q) :
    Calls Try.prog 7 #[v] w fun e w' => e = .returned (.bool (wideCf q)) ∧ Below w.heap.size w w' := by
  obtain ⟨u0, u1, u3, u4, rfl, h0, h1, _, h3, h4, _⟩ := h
  have E : Hid (wideCf q = (decide (100 < q.sh.length) || decide (100 < q.st.length) || decide (100 < q.se.length) || decide (100 < q.fa.length))) := (rfl : wideCf q = _)
  have l0 : q.sh.length ≤ 9223372036854775807 := by obtain ⟨_, _, _, hh, hm, _⟩ := h0; unfold maxLen at hm; omega
  obtain ⟨a0, c0, rfl⟩ := h0.shape
  have l1 : q.st.length ≤ 9223372036854775807 := by obtain ⟨_, _, _, hh, hm, _⟩ := h1; unfold maxLen at hm; omega
  obtain ⟨a1, c1, rfl⟩ := h1.shape
  have l3 : q.se.length ≤ 9223372036854775807 := by obtain ⟨_, _, _, hh, hm, _⟩ := h3; unfold maxLen at hm; omega
  obtain ⟨a3, c3, rfl⟩ := h3.shape
  have l4 : q.fa.length ≤ 9223372036854775807 := by obtain ⟨_, _, _, hh, hm, _⟩ := h4; unfold maxLen at hm; omega
  obtain ⟨a4, c4, rfl⟩ := h4.shape
  clear h0 h1 h3 h4
  by_cases t0 : 100 < q.sh.length
  · have i0 : (100 : Int) < ((q.sh.length : Nat) : Int) := by omega
    go_enter Try.func7, Try.ntmps7
    go_wp2_with fail
    go_ret
    exact ⟨Zl (by rw [E.out, decide_eq_true t0]; simp), Zg _ _⟩
  have i0 : ¬ (100 : Int) < ((q.sh.length : Nat) : Int) := by omega
  by_cases t1 : 100 < q.st.length
  · have i1 : (100 : Int) < ((q.st.length : Nat) : Int) := by omega
    go_enter Try.func7, Try.ntmps7
    go_wp2_with fail
    go_ret
    exact ⟨Zl (by rw [E.out, decide_eq_true t1]; simp), Zg _ _⟩
  have i1 : ¬ (100 : Int) < ((q.st.length : Nat) : Int) := by omega
  by_cases t3 : 100 < q.se.length
  · have i3 : (100 : Int) < ((q.se.length : Nat) : Int) := by omega
    go_enter Try.func7, Try.ntmps7
    go_wp2_with fail
    go_ret
    exact ⟨Zl (by rw [E.out, decide_eq_true t3]; simp), Zg _ _⟩
  have i3 : ¬ (100 : Int) < ((q.se.length : Nat) : Int) := by omega
  by_cases t4 : 100 < q.fa.length
  · have i4 : (100 : Int) < ((q.fa.length : Nat) : Int) := by omega
    go_enter Try.func7, Try.ntmps7
    go_wp2_with fail
    go_ret
    exact ⟨Zl (by rw [E.out, decide_eq_true t4]; simp), Zg _ _⟩
  have i4 : ¬ (100 : Int) < ((q.fa.length : Nat) : Int) := by omega
  go_enter Try.func7, Try.ntmps7
  go_wp2_with fail
  go_ret
  exact ⟨Zl (by rw [E.out, decide_eq_false t0, decide_eq_false t1, decide_eq_false t3, decide_eq_false t4]; simp), Zg _ _⟩
end Go.Proofs.Ytoefmdjgnabgfaa

namespace Go.Proofs.Ytoefmdjgnabgfaa
open Go.RowKit Go.Deep
end Go.Proofs.Ytoefmdjgnabgfaa

namespace Go.Proofs.Ytoefmdjgnabgfaa
end Go.Proofs.Ytoefmdjgnabgfaa

namespace Go.Proofs.Ytoefmdjgnabgfaa
open Go.RowKit Go.Deep
namespace Rd
section
variable {J : World → Prop} {F ok : Nat → Prop} {w : World} {lo : Nat}
structure CgIn (c : Cf) : Prop where
  sh : InOk c.sh
  st : InOk c.st
  se : InOk c.se
  fa : InOk c.fa
  cor : I64 c.cor
  val : I64 c.val
theorem cf_in {v : Value} {c : Cf} (h : IsCf lo w v c) : CgIn c := by
  obtain ⟨_, _, _, _, _, h0, h1, h2, h3, h4, h5⟩ := h
  exact ⟨h0.ok, h1.ok, h3.ok, h4.ok, h2, h5⟩
theorem cf_pu (hok : ∀ b, lo ≤ b → b < w.heap.size → ok b) {v : Value} {c : Cf} (h : IsCf lo w v c) : Pu F w ok (.agg (cCg c)) v := by
  obtain ⟨u0, u1, u3, u4, rfl, h0, h1, _, h3, h4, _⟩ := h
  refine .agg rfl fun j hj => ?_
  match j, hj with
  | 0, _ => exact YZ hok h0
  | 1, _ => exact YZ hok h1
  | 2, _ => exact .v _
  | 3, _ => exact YZ hok h3
  | 4, _ => exact YZ hok h4
  | 5, _ => exact .v _
theorem cf_of {v : Value} {c : Cf} (H : CgIn c) (h : Pu F w ok (.agg (cCg c)) v) : IsCf 0 w v c := by
  obtain ⟨vs, rfl, hl, hv⟩ := agg_cells h
  match vs, hl, hv with
  | [v0, v1, v2, v3, v4, v5], _, hv =>
    have e2 := (hv 2 (by simp [cCg])).v_inv
    have e5 := (hv 5 (by simp [cCg])).v_inv
    simp only [List.getD_cons_succ, List.getD_cons_zero] at e2 e5
    subst e2 e5
    exact ⟨v0, v1, v3, v4, rfl, YA H.sh (fun _ _ => Nat.zero_le _) (hv 0 (by simp [cCg])), YA H.st (fun _ _ => Nat.zero_le _) (hv 1 (by simp [cCg])), H.cor, YA H.se (fun _ _ => Nat.zero_le _) (hv 3 (by simp [cCg])), YA H.fa (fun _ _ => Nat.zero_le _) (hv 4 (by simp [cCg])), H.val⟩
theorem Wide_c {c : Cf} (H : CgIn c) : Ctr Try.prog J 7 [.agg (cCg c)] (bv (wideCf c)) := ctr1 fun w v _ h => (Wide_any (cf_of H h)).mono fun _ _ => ret_sc
theorem cg_ok {c : Cf} (H : CgIn c) (h : wideCf c = false) : CgOk c := by
  unfold wideCf at h
  simp only [Bool.or_eq_false_iff, decide_eq_false_iff_not] at h
  exact ⟨H.sh, H.st, H.se, H.fa, by omega, by omega, by omega, by omega⟩
end
end Rd
end Go.Proofs.Ytoefmdjgnabgfaa
