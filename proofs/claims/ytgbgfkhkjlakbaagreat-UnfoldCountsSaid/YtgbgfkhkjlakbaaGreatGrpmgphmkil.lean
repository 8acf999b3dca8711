import Derived.Test.YtgbgfkhkjlakbaaGreatProg
import Derived.ChangeArms
import Derived.Test.YtgbgfkhkjlakbaaGreatGrpjaojkbkb
import Derived.Test.YtgbgfkhkjlakbaaGreatGrpmlglnmkc
import Derived.Test.YtgbgfkhkjlakbaaGreatGrpckbkofkh
import Derived.Test.YtgbgfkhkjlakbaaGreatGrplnmjbbdm
import Derived.Test.YtgbgfkhkjlakbaaGreatGrpbejjcldd
set_option linter.all false
namespace Go.Proofs.YtgbgfkhkjlakbaaGreat
set_option maxRecDepth 100000
set_option maxHeartbeats 6400000
open Go.RowKit Go.Deep
variable {J : World → Prop}
theorem bitsLen_c : Ctr Tryz.prog J 86 [.v (.int .u64 0)] (iv 0) := fun w vs _ hl hv => by
  match vs, hl, hv with
  | ⟨[v0]⟩, _, hv =>
    obtain rfl := (hv 0 (by simp)).v_inv
    refine (calls_of_every_depth fun D => AnyS.bits_LenIn Tryz.lays125 D 0 w (by decide) (by decide)).mono fun e w' ⟨he, hw⟩ => ⟨_, he, ?_, by rw [hw]; exact Below.refl _ _⟩
    exact .v _
theorem insNil_c : Ctr Tryz.prog J 117 [Zh [], iv 0, iv 0] (.v (.tuple #[])) := by
 refine ZL Tryz.func117 rfl (by intro X hX; simp only [List.mem_cons, List.not_mem_nil, or_false] at hX; rcases hX with rfl | rfl | rfl; exact Yl []; exact .v _; exact .v _) (n := 49) rfl (by simp) (fun w0 => ?_)
 refine kW 49 [] [(0, Zh []), (1, iv 0), (2, iv 0)] (Zb (Za (pM (mT 1 (iv 0)) (oC (Ki (c := 1) rfl (w64 (by omega) (by omega) (by omega))) I0 I0 (pM (aT 9 (iv 1)) (kN 49 [] [(0, Zh []), (1, iv 0), (2, iv 0), (6, iv 1)] (Zd (ZJ ?_))))))))
 refine Yz (σ := {u : Nat // u = 0}) (fun s => (ofL [], ofT 49 [(0, Zh []), (1, iv 0), (2, iv 0), (6, iv 1)])) (fun _ => 0) ⟨0, rfl⟩ (Zq [] _ rfl (by kernel_rfl) (by kernel_rfl)) (fun s => ?_)
 obtain ⟨u, hu⟩ := s
 show ETri J w0 (ofL []) (ofT 49 [(0, Zh []), (1, iv 0), (2, iv 0), (6, iv 1)]) _
 refine Zb (Zb (Za (pM (mT 6 (iv 1)) (pM (mT 2 (iv 0)) (oC (YD (r := false) rfl (by decide)) I0 I0 (kN 49 [] [(0, Zh []), (1, iv 0), (2, iv 0), (6, iv 1), (12, bv false)] (Zd (Zx rfl (Yr (Zw (Zw ?_)))))))))))
 refine t_hit ?_
 refine t_end_normal ?_
 refine tri_end0 Tryz.results117  ?_
 exact rfl
theorem pdqNil_c : Ctr Tryz.prog J 85 [Zh [], iv 0, iv 0, iv 0] (.v (.tuple #[])) := by
 refine ZL Tryz.func85 rfl (by intro X hX; simp only [List.mem_cons, List.not_mem_nil, or_false] at hX; rcases hX with rfl | rfl | rfl | rfl; exact Yl []; exact .v _; exact .v _; exact .v _) (n := 134) rfl (by simp) (fun w0 => ?_)
 refine kW 134 [] [(0, Zh []), (1, iv 0), (2, iv 0), (3, iv 0)] (Zb (Za (pM (aC (.bool true)) (kN 134 [] [(0, Zh []), (1, iv 0), (2, iv 0), (3, iv 0), (8, bv true)] (Zd (Zb (Za (pM (aC (.bool true)) (kN 134 [] [(0, Zh []), (1, iv 0), (2, iv 0), (3, iv 0), (8, bv true), (9, bv true)] (Zd (ZJ ?_)))))))))))
 refine Yz (σ := {u : Nat // u = 0}) (fun s => (ofL [], ofT 134 [(0, Zh []), (1, iv 0), (2, iv 0), (3, iv 0), (8, bv true), (9, bv true)])) (fun _ => 0) ⟨0, rfl⟩ (Zq [] _ rfl (by kernel_rfl) (by kernel_rfl)) (fun s => ?_)
 obtain ⟨u, hu⟩ := s
 show ETri J w0 (ofL []) (ofT 134 [(0, Zh []), (1, iv 0), (2, iv 0), (3, iv 0), (8, bv true), (9, bv true)]) _
 refine ZJ (Zb (Za (pM (mT 2 (iv 0)) (pM (mT 1 (iv 0)) (oC (Yd (c := 0) rfl (w64 (by omega) (by omega) (by omega))) I0 I0 (pM (aT 21 (iv 0)) (kN 134 [] [(0, Zh []), (1, iv 0), (2, iv 0), (3, iv 0), (8, bv true), (9, bv true), (10, iv 0)] (Zd (Zb (Zb (Za ?_)))))))))))
 refine pM (mT 10 (iv 0)) (oC (sp_leq (r := true) rfl (by decide)) I0 I0 (kN 134 [] [(0, Zh []), (1, iv 0), (2, iv 0), (3, iv 0), (8, bv true), (9, bv true), (10, iv 0), (23, bv true)] (Zd (Zy rfl (Zb (Za (pM (mT 0 (Zh [])) (pM (mT 1 (iv 0)) (pM (mT 2 (iv 0)) (Yi rfl (Zk (c := .func 117) (xs := #[.tmp 24, .tmp 25, .tmp 26]) [] insNil_c rfl (by kernel_rfl) rfl (Xs := [Zh [], iv 0, iv 0]) rfl rfl rfl) ⟨I0, I0, I0, I0, T0⟩ T0 T0 (Zu ?_)))))))))))
 refine Zd (Zt (Zm (ZI (Zm (ZI ?_)))))
 refine tri_end0 Tryz.results85  ?_
 exact rfl
theorem sortNil_c : Ctr Tryz.prog J 58 [Zh []] (.v (.tuple #[])) := by
 refine ZL Tryz.func58 rfl (by intro X hX; simp only [List.mem_cons, List.not_mem_nil, or_false] at hX; rcases hX with rfl; exact Yl []) (n := 11) rfl (by simp) (fun w0 => ?_)
 refine kW 11 [] [(0, Zh [])] (Zb (Za (pM (mT 0 (Zh [])) (oA (Zo (.tmp 3) rfl U24) I0 (pM (aT 4 (iv 0)) (kN 11 [] [(0, Zh []), (2, iv 0)] (Zd (Za (pM (mT 0 (Zh [])) (pM (mT 2 (iv 0)) (pM (mT 2 (iv 0)) ?_)))))))))))
 refine oA (sp_conv (c := 0) rfl U3 U130 rfl) I0 (oC (Zk (c := .func 86) (xs := #[.tmp 8]) [] bitsLen_c rfl (by kernel_rfl) rfl (Xs := [.v (.int .u64 0)]) rfl rfl rfl) I0 I0 (Yi rfl (Zk (c := .func 85) (xs := #[.tmp 5, .const (.int .i64 0), .tmp 6, .tmp 9]) [] pdqNil_c rfl (by kernel_rfl) rfl (Xs := [Zh [], iv 0, iv 0, iv 0]) rfl rfl rfl) ⟨I0, I0, I0, I0, I0, T0⟩ T0 T0 (kN 11 [] [] ?_)))
 refine t_end_normal ?_
 refine tri_end0 Tryz.results58  ?_
 exact rfl
end Go.Proofs.YtgbgfkhkjlakbaaGreat

namespace Go.Proofs.YtgbgfkhkjlakbaaGreat
open Go.RowKit Go.Deep
variable {J : World → Prop}
set_option maxRecDepth 100000 in
set_option maxHeartbeats 6400000 in
theorem sortProc_w {p : Fm} {A B : List Int} (hl0 : (A ++ B).length ≤ 100) : CtrW Tryz.prog J 25 [.agg (cFm p), .own 1000000, iv A.length] 1000000 (.row false 3 1 ((A ++ B).length) ((A ++ B).map iv)) (.row false 3 1 ((A ++ B).length) ((Ct.srtP p.top A B).map iv)) (.v (.tuple #[])) := by
 have hl2 : (A ++ B).length = A.length + B.length := List.length_append
 refine ctrW_of_tri (by decide) Tryz.func25 rfl (n := 17) rfl (by simp) (fun w0 => ?_)
 refine kW 17 [(1000000, .row false 3 1 ((A ++ B).length) ((A ++ B).map iv))] [(0, .agg (cFm p)), (1, .own 1000000), (2, iv A.length)] (Zb (Za (Yi rfl (Yq (X := .agg (cFm p)) (k := 1) (.tmp 0) rfl rfl) ⟨I0, T0⟩ T0 rfl (kN 17 [(1, .box 27 (cFm p)), (1000000, .row false 3 1 ((A ++ B).length) ((A ++ B).map iv))] [(1, .own 1000000), (2, iv A.length), (3, .box 1 0)] (Zd (Zb ?_))))))
 by_cases hs1 : p.top = 1
 refine Za (oA (fb 1 3 U27 1) I0 (oB (lb (iv p.top) 6 U3) I0 rfl (oC (Ya rfl (dT hs1)) I0 I0 (kN 17 [(1000000, .row false 3 1 ((A ++ B).length) ((A ++ B).map iv))] [(1, .own 1000000), (2, iv A.length), (8, bv true)] (Zd (Zy rfl (Zb (Za (pM (mT 1 (.own 1000000)) (pM (mT 2 (iv A.length)) (Yi rfl (sp_sliceOwn (l := 0) (h := A.length) (q := A.length) (.tmp 9) none (some (.tmp 10)) rfl U24 (by kernel_rfl) [] [(.tmp 10, iv A.length)] (.inl ⟨rfl, rfl, rfl⟩) (.inr ⟨_, _, rfl, rfl⟩) (Nat.zero_le _) (by omega) rfl) ⟨I0, I0, T0⟩ ⟨rfl, T0⟩ T0 ?_)))))))))))
 refine Yi rfl (sp_sortB (c := .func 58) (x := .tmp 11) (e := 3) (n := (A ++ B).length) (k := 1000000) (fr := false) (l := 0) (ys := A) sortNil_c rfl rfl Ct.pt_y1 (by omega) (by simp) (by simp [Ct.srt_len]) (Ct.pt_d1 (Ct.srt_len A)) (by omega)) ⟨I0, I0, T0⟩ ⟨rfl, T0⟩ rfl (kN 17 [(1000000, .row false 3 1 ((A ++ B).length) ((Ct.srt A ++ B).map iv))] [(1, .own 1000000), (2, iv A.length)] (Zd (Za (pM (mT 1 (.own 1000000)) (pM (mT 2 (iv A.length)) (Yi rfl (sp_sliceOwn (l := A.length) (h := (A ++ B).length) (q := B.length) (.tmp 13) (some (.tmp 14)) none rfl U24 (by kernel_rfl) [(.tmp 14, iv A.length)] [] (.inr ⟨_, _, rfl, rfl⟩) (.inl ⟨rfl, rfl, rfl⟩) (by omega) (Nat.le_refl _) (by omega)) ⟨I0, I0, T0⟩ ⟨rfl, T0⟩ T0 (Yi rfl (sp_sortB (c := .func 58) (x := .tmp 15) (e := 3) (n := (A ++ B).length) (k := 1000000) (fr := false) (l := A.length) (ys := B) sortNil_c rfl rfl (Ct.pt_y2 (Ct.srt_len A)) (by omega) (by simp [Ct.srt_len]) (by simp [Ct.srt_len]) (Ct.pt_d2 (Ct.srt_len A) (Ct.srt_len B) hl2) (by omega)) ⟨I0, I0, T0⟩ ⟨rfl, T0⟩ rfl (kN 17 [(1000000, .row false 3 1 ((A ++ B).length) ((Ct.srt A ++ Ct.srt B).map iv))] [] ?_))))))))
 refine t_end_normalW ?_
 exact tri_back0 Tryz.results25  (by decide) (by exact congrArg (fun c => some (ABlk.row false 3 1 (A ++ B).length (c.map iv))) (Ct.srtP_one hs1))
 refine Za (oA (fb 1 3 U27 1) I0 (oB (lb (iv p.top) 6 U3) I0 rfl (oC (Ya rfl (dF hs1)) I0 I0 (kN 17 [(1000000, .row false 3 1 ((A ++ B).length) ((A ++ B).map iv))] [(1, .own 1000000), (2, iv A.length), (8, bv false)] (Zd (Zx rfl (Zr ?_)))))))
 refine t_end_normalW ?_
 exact tri_back0 Tryz.results25  (by decide) (by exact congrArg (fun c => some (ABlk.row false 3 1 (A ++ B).length (c.map iv))) (Ct.srtP_no hs1))
end Go.Proofs.YtgbgfkhkjlakbaaGreat

namespace Go.Proofs.YtgbgfkhkjlakbaaGreat
open Go.RowKit Go.Deep
variable {J : World → Prop}
set_option maxHeartbeats 800000 in
theorem Clone_row {lo : Nat} {w : World} {v : Value} {xs : List Int} (h : IsInts lo w v xs) (hn : xs.length ≤ 1000) :
    Calls Tryz.prog 24 #[v] w fun e w' => ∃ v', e = .returned v' ∧ w'.ownsRow w.heap.size 3 1 v' xs.length (xs.map (Value.int .i64)) ∧ Below w.heap.size w w' := by
  have H := h
  obtain ⟨a, cap, rfl, hl, hm, hi, hc⟩ := h
  obtain ⟨i0, hi0, hz0, hz1, hz2⟩ := info_int4
  have HI := hid0 hi.1
  cases a with
  | none =>
    obtain rfl : cap = 0 := hi.2 rfl
    have h0 : xs.length = 0 := by omega
    obtain rfl : xs = [] := List.eq_nil_of_length_eq_zero h0
    clear hc hi hl hm h0 H
    have q22 : ∀ (w : World) (a : Option Addr) (n c n' c' : Nat), (binOp .eql 24 (.slice a n c) (.slice none n' c')).run Tryz.prog w = .ok (.bool a.isNone) w := fun w a n c n' c' => Lib.run_eql_slice_nil w _ _ a n c n' c' Tryz.underlying24
    go_enter Tryz.func24, Tryz.ntmps24
    go_wp2_with fail
    go_ret
    exact ⟨_, rfl, World.ownsRow_nil _ _ _ _, Below.refl _ _⟩
  | some ad =>
    have HS : Hid (∀ w', Below w.heap.size w w' → ∀ j u, (xs.map (Value.int .i64))[j]? = some u → w'.cell? (ad.add j) = some u) := hid0 fun w' hb j u hj => by
      have h0 : 0 < xs.length := by have := (List.getElem?_eq_some_iff.1 hj).1; simp at this; omega
      obtain ⟨ad', e, hS⟩ := H.src h0
      cases e
      exact hS w' hb j u hj
    have hown := World.ownsRow_lit (base := w.heap.size) (e := 3) (size := 1) w #[] 0 (Nat.le_refl _) (by simp) (by simp)
    have HO := hid0 hown
    clear hown hc hi
    have q22 : ∀ (w : World) (a : Option Addr) (n c n' c' : Nat), (binOp .eql 24 (.slice a n c) (.slice none n' c')).run Tryz.prog w = .ok (.bool a.isNone) w := fun w a n c n' c' => Lib.run_eql_slice_nil w _ _ a n c n' c' Tryz.underlying24
    go_enter Tryz.func24, Tryz.ntmps24
    go_wp2_with (refine wpList_append_own _ rfl (.tmp 5) (.tmp 6) 24 rfl w.heap.size 3 i0 (.int .i64 0) 1 8 Tryz.underlying24 hi0 hz0 hz1 hz2 rfl (by decide) _ _ _ rfl HO.out ad xs.length cap (xs.map (Value.int .i64)) rfl (by simp) (HS.out _ (by go_grown)) (by simp [Value.oneCell']) (by unfold maxLen; omega) (by omega) (by simp) ?_; intro v' w1 hown1 hgrow1 _)
    go_ret
    have hown2 : w1.ownsRow w.heap.size 3 1 v' xs.length (xs.map (Value.int .i64)) := by simpa using hown1
    refine ⟨v', rfl, hown2, (Zc w _).grown hgrow1 (by simp) fun k hk => ?_⟩
    have hk' : some w.heap.size = some k := hk
    injection hk' with hk'
    omega
theorem ownIc {F : Nat → Prop} {lo : Nat} {w : World} {v : Value} {xs : List Int} (h : OwnV lo w v xs) : Pu F w (nw w lo) (Zh xs) v := by
  rcases h with ⟨rfl, rfl⟩ | ⟨g, cap, rfl, hl, hm, h1, h2, h3, cur, t, hg, hc⟩
  · exact .sl0 (by simp [maxLen]) (by simp)
  refine .sl (b := g) (off := 0) (f := fun j => .int .i64 (xs.getD j 0)) (by simp) hl hm ⟨h1, _, _, hg⟩ (Array.getElem?_eq_some_iff.1 hg).1 (fun j hj => ?_) fun j hj => ?_
  · have hj' : j < xs.length := by simpa using hj
    rw [Nat.zero_add, Zp hg j (v := .int .i64 (xs.getD j 0)) (hc j hj')]
  have hj' : j < xs.length := by simpa using hj
  simp only [List.getElem_map, List.getD_eq_getElem?_getD, List.getElem?_eq_getElem hj', Option.getD_some]
  exact .v _
theorem Clone_p {xs : List Int} (hx : InOk xs) (hn : xs.length ≤ 1000) : Ctr Tryz.prog J 24 [Zh xs] (Zh xs) := ctr1 fun w v _ h =>
  (Clone_any (YK hx (fun _ _ => Nat.zero_le _) h) hn).mono fun _ _ ⟨v', he, ho, hb⟩ => ⟨v', he, ownIc ho, hb⟩
theorem Clone_o {xs : List Int} (hx : InOk xs) (hn : xs.length ≤ 1000) (k : Nat) : CtrO Tryz.prog J 24 [Zh xs] k (.row true 3 1 xs.length (xs.map iv)) (.own k) := fun w vs _ hl hv => by
  match vs, hl, hv with
  | ⟨[v0]⟩, _, hv =>
    refine (Clone_row (YK hx (fun _ _ => Nat.zero_le _) (hv 0 (by simp))) hn).mono fun e w' ⟨v, he, ho, hb⟩ => ?_
    obtain ⟨nm, rfl, hnm⟩ := owns_nm ho
    refine ⟨_, nm, he, fun b c n e => hnm b c n e, ⟨xs.map (Value.int .i64), ho, by simp, fun j hj => ?_⟩, .own (single_same k nm), hb⟩
    have hj' : j < xs.length := by simpa using hj
    have e1 : (xs.map iv)[j] = .v (.int .i64 xs[j]) := by simp [iv]
    have e2 : (xs.map (Value.int .i64)).getD j undef = .int .i64 xs[j] := by simp [List.getD_eq_getElem?_getD, hj']
    rw [e1, e2]
    exact .v _
end Go.Proofs.YtgbgfkhkjlakbaaGreat

namespace Go.Proofs.YtgbgfkhkjlakbaaGreat
set_option maxRecDepth 100000
set_option maxHeartbeats 6400000
open Go.RowKit Go.Deep
variable {J : World → Prop}
theorem Ct.pw {p : Fm} {A : List Int} : ∀ X ∈ [AV.agg (cFm p), .own 1000000, iv ((A.length : Nat) : Int)], PlainW X := by
  intro X hX
  simp only [List.mem_cons, List.not_mem_nil, or_false] at hX
  rcases hX with rfl | rfl | rfl
  · exact .pl (ZQ (YC p))
  · exact .own _
  exact .pl (.v _)
theorem qCanonical_ok {p : Fm} (HP : FmOk p) (lS : p.states.length ≤ 60) {sh A B se fa : List Int} {val : Int} (HC : Rd.CgOk (Ct.two sh A B se fa val)) (hv : valE p = 0) (hb : Rd.belB (A ++ B) ((p.states.length : Nat) : Int) = true) : Ctr Tryz.prog J 10 [.agg (cFm p), .agg (Rd.cCg (Ct.two sh A B se fa val))] (.tup [.agg (Rd.cCg (Ct.cnC p (Ct.two sh A B se fa val))), iv (Ct.ctE p (Ct.two sh A B se fa val))]) := by
 have hl0 : (A ++ B).length ≤ 100 := HC.lst
 have hl2 : (A ++ B).length = A.length + B.length := List.length_append
 have hpl : Ct.plB p (Ct.two sh A B se fa val) = true := Ct.two_pl.trans hb
 refine ZL Tryz.func10 rfl (by intro X hX; simp only [List.mem_cons, List.not_mem_nil, or_false] at hX; rcases hX with rfl | rfl; exact ZQ (YC p); exact ZQ (Rd.plain_cg _)) (n := 41) rfl (by simp) (fun w0 => ?_)
 refine kW 41 [] [(0, .agg (cFm p)), (1, .agg (Rd.cCg (Ct.two sh A B se fa val)))] (Zb (Za (Yi rfl (Yq (X := .agg (cFm p)) (k := 1) (.tmp 0) rfl rfl) ⟨I0, T0⟩ T0 rfl (Yi rfl (Yq (X := .agg (Rd.cCg (Ct.two sh A B se fa val))) (k := 2) (.tmp 1) rfl rfl) ⟨I0, T0⟩ T0 rfl (Yi rfl (Y4 (z := .agg #[.slice none 0 0, .slice none 0 0, .int .i64 0, .slice none 0 0, .slice none 0 0, .int .i64 0]) (k := 3) rfl (by kernel_rfl)) T0 T0 rfl (pM (aC (.int .i64 0)) (kN 41 [(1, .box 27 (cFm p)), (2, .box 29 (Rd.cCg (Ct.two sh A B se fa val))), (3, .box 29 [.v (.slice none 0 0), .v (.slice none 0 0), iv 0, .v (.slice none 0 0), .v (.slice none 0 0), iv 0])] [(2, .box 1 0), (3, .box 2 0), (4, .box 3 0), (5, iv 0)] (Zd (Zb (Zb (Za ?_)))))))))))
 refine oB (Zn (Y := .box 27 (cFm p)) (ds := cFm p) (z := 10) (.tmp 2) rfl U27 rfl (by kernel_rfl) (by decide) (by kernel_rfl) (by kernel_rfl)) I0 rfl (oC (Zk (c := .func 20) (xs := #[.tmp 7]) [] (qValidate_c HP) rfl (by kernel_rfl) rfl (Xs := [.agg (cFm p)]) rfl rfl rfl) I0 I0 (pM (aT 8 (iv (valE p))) (kN 41 [(1, .box 27 (cFm p)), (2, .box 29 (Rd.cCg (Ct.two sh A B se fa val))), (3, .box 29 [.v (.slice none 0 0), .v (.slice none 0 0), iv 0, .v (.slice none 0 0), .v (.slice none 0 0), iv 0])] [(2, .box 1 0), (3, .box 2 0), (4, .box 3 0), (5, iv 0), (6, iv (valE p))] (Zd (Zb (Za (pM (mT 6 (iv (valE p))) (oC (ZM rfl (dT' hv)) I0 I0 (kN 41 [(1, .box 27 (cFm p)), (2, .box 29 (Rd.cCg (Ct.two sh A B se fa val))), (3, .box 29 [.v (.slice none 0 0), .v (.slice none 0 0), iv 0, .v (.slice none 0 0), .v (.slice none 0 0), iv 0])] [(2, .box 1 0), (3, .box 2 0), (4, .box 3 0), (5, iv 0), (6, iv (valE p)), (10, bv false)] (Zd (Zx rfl ?_)))))))))))
 refine Zr (Zd (Zb (Zb (Za (oB (Zn (Y := .box 27 (cFm p)) (ds := cFm p) (z := 10) (.tmp 2) rfl U27 rfl (by kernel_rfl) (by decide) (by kernel_rfl) (by kernel_rfl)) I0 rfl (oB (Zn (Y := .box 29 (Rd.cCg (Ct.two sh A B se fa val))) (ds := Rd.cCg (Ct.two sh A B se fa val)) (z := 6) (.tmp 3) rfl U29 rfl (by kernel_rfl) (by decide) (by kernel_rfl) (by kernel_rfl)) I0 rfl (oD (Zk (c := .func 21) (xs := #[.tmp 13, .tmp 14]) [] (ZS (hasProc_c HP HC) hpl) rfl (by kernel_rfl) rfl (Xs := [.agg (cFm p), .agg (Rd.cCg (Ct.two sh A B se fa val))]) rfl rfl rfl) I0 I0 I0 (oA (ZD rfl rfl) I0 (kN 41 [(1, .box 27 (cFm p)), (2, .box 29 (Rd.cCg (Ct.two sh A B se fa val))), (3, .box 29 [.v (.slice none 0 0), .v (.slice none 0 0), iv 0, .v (.slice none 0 0), .v (.slice none 0 0), iv 0])] [(2, .box 1 0), (3, .box 2 0), (4, .box 3 0), (5, iv 0), (16, bv false)] (Zd (Zx rfl ?_)))))))))))
 refine Zr (Zd (Zb ?_))
 refine Z8 (dA (fb 0 3 U29 1) I0 (dB (lb (Zh sh) 18 U24) I0 rfl (dC (Zk (c := .func 24) (xs := #[.tmp 19]) [] (Clone_p (xs := sh) HC.sh (Nat.le_trans HC.lsh (by decide))) rfl (by kernel_rfl) rfl (Xs := [Zh sh]) rfl rfl rfl) I0 I0 (dA (fb 1 3 U29 1) I0 (dB (lb (Zh (A ++ B)) 21 U24) I0 rfl (dR (sp_callO (c := .func 24) (xs := #[.tmp 22]) [] (Clone_o (xs := A ++ B) HC.st (Nat.le_trans HC.lst (by decide)) 4) rfl (by kernel_rfl) rfl (Xs := [Zh (A ++ B)]) rfl rfl rfl) ⟨I0, I0, T0⟩ T0 rfl (dA (fb 0 3 U29 1) I0 (dR (ZV (T0 := 29) (X := .fr (Zh sh)) (cs := Rd.cCg (Ct.two sh A B se fa val)) (ds := [.fr (Zh sh), Zh (A ++ B), iv A.length, Zh se, Zh fa, iv val]) (z := 1) (.tmp 24) (.tmp 20) rfl (by kernel_rfl) (by kernel_rfl) (by kernel_rfl) (of_decide_eq_true (by kernel_rfl)) (by kernel_rfl)) ⟨I0, I0, T0⟩ ⟨rfl, T0⟩ rfl (dA (fb 1 3 U29 1) I0 (dR (ZV (T0 := 29) (X := .own 4) (cs := [.fr (Zh sh), Zh (A ++ B), iv A.length, Zh se, Zh fa, iv val]) (ds := [.fr (Zh sh), .own 4, iv A.length, Zh se, Zh fa, iv val]) (z := 1) (.tmp 25) (.tmp 23) rfl (by kernel_rfl) (by kernel_rfl) (by kernel_rfl) (of_decide_eq_true (by kernel_rfl)) (by kernel_rfl)) ⟨I0, I0, T0⟩ ⟨rfl, T0⟩ rfl (dE ?_))))))))))) (by kernel_rfl)
 show ETri J w0 _ _ _
 refine kW 41 [(1, .box 27 (cFm p)), (2, .box 29 [.fr (Zh sh), .own 4, iv A.length, Zh se, Zh fa, iv val]), (3, .box 29 [.v (.slice none 0 0), .v (.slice none 0 0), iv 0, .v (.slice none 0 0), .v (.slice none 0 0), iv 0]), (4, .row true 3 1 ((A ++ B).length) ((A ++ B).map iv))] [(2, .box 1 0), (3, .box 2 0), (4, .box 3 0), (5, iv 0)] (Zd (Zb ?_))
 refine Z8 (dA (fb 3 3 U29 1) I0 (dB (lb (Zh se) 26 U24) I0 rfl (dC (Zk (c := .func 24) (xs := #[.tmp 27]) [] (Clone_p (xs := se) HC.se (Nat.le_trans HC.lse (by decide))) rfl (by kernel_rfl) rfl (Xs := [Zh se]) rfl rfl rfl) I0 I0 (dA (fb 4 3 U29 1) I0 (dB (lb (Zh fa) 29 U24) I0 rfl (dC (Zk (c := .func 24) (xs := #[.tmp 30]) [] (Clone_p (xs := fa) HC.fa (Nat.le_trans HC.lfa (by decide))) rfl (by kernel_rfl) rfl (Xs := [Zh fa]) rfl rfl rfl) I0 I0 (dA (fb 3 3 U29 1) I0 (dR (ZV (T0 := 29) (X := .fr (Zh se)) (cs := [.fr (Zh sh), .own 4, iv A.length, Zh se, Zh fa, iv val]) (ds := [.fr (Zh sh), .own 4, iv A.length, .fr (Zh se), Zh fa, iv val]) (z := 1) (.tmp 32) (.tmp 28) rfl (by kernel_rfl) (by kernel_rfl) (by kernel_rfl) (of_decide_eq_true (by kernel_rfl)) (by kernel_rfl)) ⟨I0, I0, T0⟩ ⟨rfl, T0⟩ rfl (dA (fb 4 3 U29 1) I0 (dR (ZV (T0 := 29) (X := .fr (Zh fa)) (cs := [.fr (Zh sh), .own 4, iv A.length, .fr (Zh se), Zh fa, iv val]) (ds := [.fr (Zh sh), .own 4, iv A.length, .fr (Zh se), .fr (Zh fa), iv val]) (z := 1) (.tmp 33) (.tmp 31) rfl (by kernel_rfl) (by kernel_rfl) (by kernel_rfl) (of_decide_eq_true (by kernel_rfl)) (by kernel_rfl)) ⟨I0, I0, T0⟩ ⟨rfl, T0⟩ rfl (dE ?_))))))))))) (by kernel_rfl)
 show ETri J w0 _ _ _
 refine kW 41 [(1, .box 27 (cFm p)), (2, .box 29 [.fr (Zh sh), .own 4, iv A.length, .fr (Zh se), .fr (Zh fa), iv val]), (3, .box 29 [.v (.slice none 0 0), .v (.slice none 0 0), iv 0, .v (.slice none 0 0), .v (.slice none 0 0), iv 0]), (4, .row true 3 1 ((A ++ B).length) ((A ++ B).map iv))] [(2, .box 1 0), (3, .box 2 0), (4, .box 3 0), (5, iv 0)] (Zd (Zb (Za (oB (Zn (Y := .box 27 (cFm p)) (ds := cFm p) (z := 10) (.tmp 2) rfl U27 rfl (by kernel_rfl) (by decide) (by kernel_rfl) (by kernel_rfl)) I0 rfl (oA (fb 1 3 U29 1) I0 (oB (lb (.own 4) 35 U24) I0 rfl (oA (fb 2 3 U29 1) I0 (oB (lb (iv A.length) 37 U3) I0 rfl (Yi rfl (sp_callWR (c := .func 25) (xs := #[.tmp 34, .tmp 36, .tmp 38]) (k := 4) 1000000 [] (sortProc_w (p := p) hl0) rfl (by kernel_rfl) rfl (Xs := [.agg (cFm p), .own 4, iv A.length]) rfl rfl (Ct.pw) rfl (fun d hd => by obtain ⟨x, _, rfl⟩ := List.mem_map.1 hd; rfl) (fun d hd => by obtain ⟨x, _, rfl⟩ := List.mem_map.1 hd; rfl) rfl) ⟨I0, I0, I0, I0, T0⟩ ⟨rfl, T0⟩ rfl (kN 41 [(2, .box 29 [.fr (Zh sh), .own 4, iv A.length, .fr (Zh se), .fr (Zh fa), iv val]), (3, .box 29 [.v (.slice none 0 0), .v (.slice none 0 0), iv 0, .v (.slice none 0 0), .v (.slice none 0 0), iv 0]), (4, .row true 3 1 ((A ++ B).length) ((Ct.srtP p.top A B).map iv))] [(3, .box 2 0), (4, .box 3 0), (5, iv 0)] (Zd ?_)))))))))))
 refine Zb (kW 41 [(2, .box 29 [.fr (Zh sh), .fr (.sl 1 (A ++ B).length ((Ct.srtP p.top A B).map iv)), iv A.length, .fr (Zh se), .fr (Zh fa), iv val]), (3, .box 29 [.v (.slice none 0 0), .v (.slice none 0 0), iv 0, .v (.slice none 0 0), .v (.slice none 0 0), iv 0])] [(3, .box 2 0), (4, .box 3 0), (5, iv 0)] (Za (oB (Zn (Y := .box 29 [.fr (Zh sh), .fr (.sl 1 (A ++ B).length ((Ct.srtP p.top A B).map iv)), iv A.length, .fr (Zh se), .fr (Zh fa), iv val]) (ds := [.fr (Zh sh), .fr (.sl 1 (A ++ B).length ((Ct.srtP p.top A B).map iv)), iv A.length, .fr (Zh se), .fr (Zh fa), iv val]) (z := 6) (.tmp 3) rfl U29 rfl (by kernel_rfl) (by decide) (by kernel_rfl) (by kernel_rfl)) I0 rfl (Yi rfl (ZV (T0 := 29) (X := .agg [.fr (Zh sh), .fr (.sl 1 (A ++ B).length ((Ct.srtP p.top A B).map iv)), iv A.length, .fr (Zh se), .fr (Zh fa), iv val]) (cs := [.v (.slice none 0 0), .v (.slice none 0 0), iv 0, .v (.slice none 0 0), .v (.slice none 0 0), iv 0]) (ds := [.fr (Zh sh), .fr (.sl 1 (A ++ B).length ((Ct.srtP p.top A B).map iv)), iv A.length, .fr (Zh se), .fr (Zh fa), iv val]) (z := 6) (.tmp 4) (.tmp 40) rfl (by kernel_rfl) (by kernel_rfl) (by kernel_rfl) (of_decide_eq_true (by kernel_rfl)) (by kernel_rfl)) ⟨I0, I0, T0⟩ ⟨rfl, T0⟩ rfl (pM (aC (.int .i64 0)) (Zu (Zd (Zt ?_))))))))
 refine Y0 Tryz.results10 (.cellS rfl rfl U29 rfl (z := 6) (by kernel_rfl) rfl (by decide)) (.tmp rfl) ?_
 rw [Ct.cnC_o hv hpl, Ct.ctE_o hv hpl]
 exact congrArg (fun q => AV.tup [.agg [Zh sh, .sl 1 q ((Ct.srtP p.top A B).map iv), iv A.length, Zh se, Zh fa, iv val], iv 0]) (by rw [Ct.srtP_len, List.length_append])
theorem qCanonical_err {p : Fm} (HP : FmOk p) {c : Cf} (HC : Rd.CgOk c) (hn : valE p = 0 → Ct.plB p c = false) : Ctr Tryz.prog J 10 [.agg (cFm p), .agg (Rd.cCg c)] (.tup [.agg (Rd.cCg (Ct.cnC p c)), iv (Ct.ctE p c)]) := by
 refine ZL Tryz.func10 rfl (by intro X hX; simp only [List.mem_cons, List.not_mem_nil, or_false] at hX; rcases hX with rfl | rfl; exact ZQ (YC p); exact ZQ (Rd.plain_cg c)) (n := 41) rfl (by simp) (fun w0 => ?_)
 refine kW 41 [] [(0, .agg (cFm p)), (1, .agg (Rd.cCg c))] (Zb (Za (Yi rfl (Yq (X := .agg (cFm p)) (k := 1) (.tmp 0) rfl rfl) ⟨I0, T0⟩ T0 rfl (Yi rfl (Yq (X := .agg (Rd.cCg c)) (k := 2) (.tmp 1) rfl rfl) ⟨I0, T0⟩ T0 rfl (Yi rfl (Y4 (z := .agg #[.slice none 0 0, .slice none 0 0, .int .i64 0, .slice none 0 0, .slice none 0 0, .int .i64 0]) (k := 3) rfl (by kernel_rfl)) T0 T0 rfl (pM (aC (.int .i64 0)) (kN 41 [(1, .box 27 (cFm p)), (2, .box 29 (Rd.cCg c)), (3, .box 29 [.v (.slice none 0 0), .v (.slice none 0 0), iv 0, .v (.slice none 0 0), .v (.slice none 0 0), iv 0])] [(2, .box 1 0), (3, .box 2 0), (4, .box 3 0), (5, iv 0)] (Zd (Zb (Zb (Za ?_)))))))))))
 refine oB (Zn (Y := .box 27 (cFm p)) (ds := cFm p) (z := 10) (.tmp 2) rfl U27 rfl (by kernel_rfl) (by decide) (by kernel_rfl) (by kernel_rfl)) I0 rfl (oC (Zk (c := .func 20) (xs := #[.tmp 7]) [] (qValidate_c HP) rfl (by kernel_rfl) rfl (Xs := [.agg (cFm p)]) rfl rfl rfl) I0 I0 (pM (aT 8 (iv (valE p))) (kN 41 [(1, .box 27 (cFm p)), (2, .box 29 (Rd.cCg c)), (3, .box 29 [.v (.slice none 0 0), .v (.slice none 0 0), iv 0, .v (.slice none 0 0), .v (.slice none 0 0), iv 0])] [(2, .box 1 0), (3, .box 2 0), (4, .box 3 0), (5, iv 0), (6, iv (valE p))] (Zd (Zb ?_)))))
 by_cases hs1 : valE p = 0
 refine Za (pM (mT 6 (iv (valE p))) (oC (ZM rfl (dT' hs1)) I0 I0 (kN 41 [(1, .box 27 (cFm p)), (2, .box 29 (Rd.cCg c)), (3, .box 29 [.v (.slice none 0 0), .v (.slice none 0 0), iv 0, .v (.slice none 0 0), .v (.slice none 0 0), iv 0])] [(2, .box 1 0), (3, .box 2 0), (4, .box 3 0), (5, iv 0), (6, iv (valE p)), (10, bv false)] (Zd (Zx rfl (Zr (Zd (Zb (Zb (Za (oB (Zn (Y := .box 27 (cFm p)) (ds := cFm p) (z := 10) (.tmp 2) rfl U27 rfl (by kernel_rfl) (by decide) (by kernel_rfl) (by kernel_rfl)) I0 rfl ?_)))))))))))
 refine oB (Zn (Y := .box 29 (Rd.cCg c)) (ds := Rd.cCg c) (z := 6) (.tmp 3) rfl U29 rfl (by kernel_rfl) (by decide) (by kernel_rfl) (by kernel_rfl)) I0 rfl (oD (Zk (c := .func 21) (xs := #[.tmp 13, .tmp 14]) [] (ZS (hasProc_c HP HC) (hn hs1)) rfl (by kernel_rfl) rfl (Xs := [.agg (cFm p), .agg (Rd.cCg c)]) rfl rfl rfl) I0 I0 I0 (oA (ZD rfl rfl) I0 (kN 41 [(1, .box 27 (cFm p)), (2, .box 29 (Rd.cCg c)), (3, .box 29 [.v (.slice none 0 0), .v (.slice none 0 0), iv 0, .v (.slice none 0 0), .v (.slice none 0 0), iv 0])] [(2, .box 1 0), (3, .box 2 0), (4, .box 3 0), (5, iv 0), (16, bv true)] (Zd (Zy rfl (Zb (Za (Yi rfl (sp_bld [] #[.slice none 0 0, .slice none 0 0, .int .i64 0, .slice none 0 0, .slice none 0 0, .int .i64 0] rfl rfl (by kernel_rfl) rfl) T0 T0 T0 (Yi rfl (ZV (T0 := 29) (X := .agg [.v (.slice none 0 0), .v (.slice none 0 0), iv 0, .v (.slice none 0 0), .v (.slice none 0 0), iv 0]) (cs := [.v (.slice none 0 0), .v (.slice none 0 0), iv 0, .v (.slice none 0 0), .v (.slice none 0 0), iv 0]) (ds := [.v (.slice none 0 0), .v (.slice none 0 0), iv 0, .v (.slice none 0 0), .v (.slice none 0 0), iv 0]) (z := 6) (.tmp 4) (.tmp 17) rfl (by kernel_rfl) (by kernel_rfl) (by kernel_rfl) (of_decide_eq_true (by kernel_rfl)) (by kernel_rfl)) ⟨I0, I0, T0⟩ ⟨rfl, T0⟩ rfl (pM (aC (.int .i64 1)) (Zu ?_)))))))))))
 refine Zd (Zt (Zm ?_))
 refine YW (Ym 3 0 4 true 3 1 rfl rfl rfl rfl) ?_
 refine YW (Ym 3 1 5 true 3 1 rfl rfl rfl rfl) ?_
 refine YW (Ym 3 3 6 true 3 1 rfl rfl rfl rfl) ?_
 refine YW (Ym 3 4 7 true 3 1 rfl rfl rfl rfl) ?_
 refine Y0 Tryz.results10 (.cellS rfl rfl U29 rfl (z := 6) (by kernel_rfl) rfl (by decide)) (.tmp rfl) ?_
 rw [Ct.cnC_n (Ct.ctE_ne fun h => by rw [hn hs1] at h; cases h.2), Ct.ctE_n hs1 (hn hs1)]
 exact rfl
 refine Za (pM (mT 6 (iv (valE p))) (oC (ZM rfl (dF' hs1)) I0 I0 (kN 41 [(1, .box 27 (cFm p)), (2, .box 29 (Rd.cCg c)), (3, .box 29 [.v (.slice none 0 0), .v (.slice none 0 0), iv 0, .v (.slice none 0 0), .v (.slice none 0 0), iv 0])] [(2, .box 1 0), (3, .box 2 0), (4, .box 3 0), (5, iv 0), (6, iv (valE p)), (10, bv true)] (Zd (Zy rfl (Zb (Za (Yi rfl (sp_bld [] #[.slice none 0 0, .slice none 0 0, .int .i64 0, .slice none 0 0, .slice none 0 0, .int .i64 0] rfl rfl (by kernel_rfl) rfl) T0 T0 T0 (pM (mT 6 (iv (valE p))) (Yi rfl (ZV (T0 := 29) (X := .agg [.v (.slice none 0 0), .v (.slice none 0 0), iv 0, .v (.slice none 0 0), .v (.slice none 0 0), iv 0]) (cs := [.v (.slice none 0 0), .v (.slice none 0 0), iv 0, .v (.slice none 0 0), .v (.slice none 0 0), iv 0]) (ds := [.v (.slice none 0 0), .v (.slice none 0 0), iv 0, .v (.slice none 0 0), .v (.slice none 0 0), iv 0]) (z := 6) (.tmp 4) (.tmp 11) rfl (by kernel_rfl) (by kernel_rfl) (by kernel_rfl) (of_decide_eq_true (by kernel_rfl)) (by kernel_rfl)) ⟨I0, I0, T0⟩ ⟨rfl, T0⟩ rfl (pM (aT 12 (iv (valE p))) ?_)))))))))))
 refine Zu (Zd (Zt (Zm ?_)))
 refine YW (Ym 3 0 4 true 3 1 rfl rfl rfl rfl) ?_
 refine YW (Ym 3 1 5 true 3 1 rfl rfl rfl rfl) ?_
 refine YW (Ym 3 3 6 true 3 1 rfl rfl rfl rfl) ?_
 refine YW (Ym 3 4 7 true 3 1 rfl rfl rfl rfl) ?_
 refine Y0 Tryz.results10 (.cellS rfl rfl U29 rfl (z := 6) (by kernel_rfl) rfl (by decide)) (.tmp rfl) ?_
 rw [Ct.cnC_n (Ct.ctE_ne fun h => hs1 h.1), Ct.ctE_v hs1]
 exact rfl
theorem qCanonical_c {p : Fm} (HP : FmOk p) (lS : p.states.length ≤ 60) {c : Cf} (HC : Rd.CgOk c) : Ctr Tryz.prog J 10 [.agg (cFm p), .agg (Rd.cCg c)] (.tup [.agg (Rd.cCg (Ct.cnC p c)), iv (Ct.ctE p c)]) := by
  by_cases hv : valE p = 0
  · by_cases hp : Ct.plB p c = true
    · obtain ⟨sh, A, B, se, fa, val, rfl⟩ := Ct.pl_two hp
      exact qCanonical_ok HP lS HC hv (Ct.two_pl.symm.trans hp)
    exact qCanonical_err HP HC fun _ => by simpa using hp
  exact qCanonical_err HP HC fun h => absurd h hv
end Go.Proofs.YtgbgfkhkjlakbaaGreat

namespace Go.Proofs.YtgbgfkhkjlakbaaGreat
set_option maxRecDepth 100000
set_option maxHeartbeats 6400000
open Go.RowKit Go.Deep
variable {J : World → Prop}
theorem CopyInts_o (xs : List Int) (hx : xs.length ≤ 17592186044416) (k : Nat) : CtrO Tryz.prog J 87 [Zh xs] k (.row true 3 1 (0 + xs.length) (xs.map iv)) (.own k) := by
 refine ctrO_of_tri Tryz.func87 rfl (by intro X hX; simp at hX; subst hX; exact Yl _) (n := 6) rfl (by simp) (fun w0 => ?_)
 refine kW 6 [] [(0, Zh xs)] (Zb (Za (pM (Yt (.const (.slice none 0 0)) (.v (.slice none 0 0)) rfl) (kN 6 [] [(0, Zh xs), (2, .v (.slice none 0 0))] (Zd (Zb (Za (Yi rfl (sp_build0 (z := 1) (k := 1) true rfl U24 (by kernel_rfl)) T0 T0 rfl (pM (mT 0 (Zh xs)) (Yi rfl (KI (n := 0) (cs := []) (fr := true) (m := xs.length) (ds := (xs.map iv)) (⟨U24, by kernel_rfl, by decide⟩ : Elt Tryz.prog 24 3 1 8) (.tmp 3) (.tmp 4) rfl (fun _ d hd => by obtain ⟨x, _, rfl⟩ := List.mem_map.1 hd; rfl) (by unfold maxLen; omega) (by omega) (fun d hd => by obtain ⟨x, _, rfl⟩ := List.mem_map.1 hd; rfl) (es := (xs.map iv)) (by rw [unfr_ints]; rfl)) ⟨I0, I0, T0⟩ ⟨rfl, T0⟩ rfl (pM (aT 5 (.own 1)) ?_)))))))))))
 refine Zu (Zd (Zt ?_))
 refine tri_give1 1 Tryz.results87 (.tmp rfl) rfl rfl
theorem sorted_o (xs : List Int) (lx : xs.length ≤ 100) (k : Nat) : CtrO Tryz.prog J 60 [Zh xs] k (.row true 3 1 (0 + xs.length) ((Ct.srt xs).map iv)) (.own k) := by
 refine ctrO_of_tri Tryz.func60 rfl (by intro X hX; simp at hX; subst hX; exact Yl _) (n := 48) rfl (by simp) (fun w0 => ?_)
 refine kW 48 [] [(0, Zh xs)] (Zb (Za (pM (Yt (.const (.slice none 0 0)) (.v (.slice none 0 0)) rfl) (kN 48 [] [(0, Zh xs), (2, .v (.slice none 0 0))] (Zd (Zb (Za (pM (mT 0 (Zh xs)) (Yi rfl (sp_callO (c := .func 87) (xs := #[.tmp 6]) [] (CopyInts_o xs (Nat.le_trans lx (by decide)) 1) rfl (by kernel_rfl) rfl (Xs := [Zh xs]) rfl rfl rfl) ⟨I0, I0, T0⟩ T0 rfl (pM (aT 7 (.own 1)) (kN 48 [(1, .row true 3 1 (0 + xs.length) (xs.map iv))] [(2, .v (.slice none 0 0)), (3, .own 1)] ?_)))))))))))
 refine Zd (Zb (Zb (Za (pM (aC (.int .i64 1)) (kN 48 [(1, .row true 3 1 (0 + xs.length) (xs.map iv))] [(2, .v (.slice none 0 0)), (3, .own 1), (4, iv 1)] (Zd (ZJ ?_)))))))
 refine Yz (σ := {s : Nat × List Int // 1 ≤ s.1 ∧ s.1 ≤ xs.length + 1 ∧ Ct.Srd xs s.2 s.1}) (fun s => (ofL [(1, .row true 3 1 (0 + xs.length) (s.1.2.map iv))], ofT 48 [(2, .v (.slice none 0 0)), (3, .own 1), (4, iv s.1.1)])) (fun s => xs.length + 1 - s.1.1) ⟨(1, xs), Nat.le_refl 1, by dsimp only; omega, Ct.Srd.one xs⟩ (Zq _ _ rfl (by kernel_rfl) (by kernel_rfl)) (fun s => ?_)
 obtain ⟨⟨i, L⟩, hi0, hi1, hL⟩ := s
 show ETri J w0 (ofL [(1, .row true 3 1 (0 + xs.length) (L.map iv))]) (ofT 48 [(2, .v (.slice none 0 0)), (3, .own 1), (4, iv i)]) _
 dsimp only at hi0 hi1 hL
 have hLl : L.length = xs.length := hL.perm.length_eq
 refine Zb (Zb ?_)
 by_cases hs1 : ((i : Nat) : Int) < (((0 + xs.length) : Nat) : Int)
 refine Za (pM (mT 4 (iv i)) (pM (mT 3 (.own 1)) (oB (sp_lenOwn (.tmp 9) rfl U24) I0 rfl (oC (YD rfl (dT hs1)) I0 I0 (kN 48 [(1, .row true 3 1 (0 + xs.length) (L.map iv))] [(2, .v (.slice none 0 0)), (3, .own 1), (4, iv i), (11, bv true)] (Zd (Zy rfl (Zr (Zd (Zb (ZJ ?_)))))))))))
 refine Zb (Za (pM (mT 4 (iv i)) (pM (aT 14 (iv i)) (kN 48 [(1, .row true 3 1 (0 + xs.length) (L.map iv))] [(2, .v (.slice none 0 0)), (3, .own 1), (4, iv i), (5, iv i), (11, bv true)] (Zd (ZJ ?_))))))
 refine Yz (σ := {s : Nat × List Int // Ct.Ins xs s.2 i s.1}) (fun s => (ofL [(1, .row true 3 1 (0 + xs.length) (s.1.2.map iv))], ofT 48 [(2, .v (.slice none 0 0)), (3, .own 1), (4, iv i), (5, iv s.1.1), (11, bv true)])) (fun s => s.1.1) ⟨(i, L), hL.ins⟩ (Zq _ _ rfl (by kernel_rfl) (by kernel_rfl)) (fun s => ?_)
 obtain ⟨⟨k, L⟩, hI⟩ := s
 show ETri J w0 (ofL [(1, .row true 3 1 (0 + xs.length) (L.map iv))]) (ofT 48 [(2, .v (.slice none 0 0)), (3, .own 1), (4, iv i), (5, iv k), (11, bv true)]) _
 dsimp only at hI
 have hLl : L.length = xs.length := hI.perm.length_eq
 have hki := hI.le
 refine Zb (Zb ?_)
 by_cases hs2 : 0 < ((k : Nat) : Int)
 by_cases hs3 : (L.getD k 0) < (L.getD (k - 1) 0)
 refine Z8 (dM (mT 5 (iv k)) (dC (ZW rfl (dT hs2)) I0 I0 (dM (mT 16 (bv true)) (dM (mT 3 (.own 1)) (dM (mT 5 (iv k)) (dC (Yd (c := ((k : Nat) : Int) - 1) rfl (w64 (by omega) (by omega) (by omega))) I0 I0 (dR (ZU (off := ((((k : Nat) : Int) - 1).toNat) * 1) (.tmp 18) (.tmp 20) rfl U24 (by kernel_rfl) (by omega) (by omega) rfl) ⟨I0, I0, T0⟩ ⟨rfl, T0⟩ T0 (dB (Yb  (Y := .row true 3 1 (0 + xs.length) (L.map iv)) (.tmp 21) rfl U3 rfl (Ct.row_pred (by omega) (by omega))) I0 rfl (dM (mT 3 (.own 1)) (dM (mT 5 (iv k)) (dR (ZU (off := k * 1) (.tmp 23) (.tmp 24) rfl U24 (by kernel_rfl) (by omega) (by omega) rfl) ⟨I0, I0, T0⟩ ⟨rfl, T0⟩ T0 (dB (Yb  (Y := .row true 3 1 (0 + xs.length) (L.map iv)) (.tmp 25) rfl U3 rfl (Ct.row_at (by omega))) I0 rfl (dC (ZW rfl (dT hs3)) I0 I0 (dP (Zi (.tmp 17) (.tmp 27) (.const (.bool false)) true (bv true) (bv false) rfl) (dE ?_))))))))))))))) (by kernel_rfl)
 show ETri J w0 _ _ _
 refine kW 48 [(1, .row true 3 1 (0 + xs.length) (L.map iv))] [(2, .v (.slice none 0 0)), (3, .own 1), (4, iv i), (5, iv k), (11, bv true), (28, bv true)] (Zd (Zy rfl (Zr (Zd (Zb (ZJ ?_))))))
 refine Z8 (dM (mT 3 (.own 1)) (dM (mT 5 (iv k)) (dC (Yd (c := ((k : Nat) : Int) - 1) rfl (w64 (by omega) (by omega) (by omega))) I0 I0 (dM (mT 3 (.own 1)) (dM (mT 5 (iv k)) (dM (mT 3 (.own 1)) (dM (mT 5 (iv k)) (dR (ZU (off := k * 1) (.tmp 36) (.tmp 37) rfl U24 (by kernel_rfl) (by omega) (by omega) rfl) ⟨I0, I0, T0⟩ ⟨rfl, T0⟩ T0 (dB (Yb  (Y := .row true 3 1 (0 + xs.length) (L.map iv)) (.tmp 38) rfl U3 rfl (Ct.row_at (by omega))) I0 rfl (dM (mT 3 (.own 1)) (dM (mT 5 (iv k)) (dC (Yd (c := ((k : Nat) : Int) - 1) rfl (w64 (by omega) (by omega) (by omega))) I0 I0 (dR (ZU (off := ((((k : Nat) : Int) - 1).toNat) * 1) (.tmp 40) (.tmp 42) rfl U24 (by kernel_rfl) (by omega) (by omega) rfl) ⟨I0, I0, T0⟩ ⟨rfl, T0⟩ T0 (dB (Yb  (Y := .row true 3 1 (0 + xs.length) (L.map iv)) (.tmp 43) rfl U3 rfl (Ct.row_pred (by omega) (by omega))) I0 rfl (dR (ZU (off := ((((k : Nat) : Int) - 1).toNat) * 1) (.tmp 31) (.tmp 33) rfl U24 (by kernel_rfl) (by omega) (by omega) rfl) ⟨I0, I0, T0⟩ ⟨rfl, T0⟩ T0 (dR (Kb (X := iv (L.getD k 0)) (off := ((((k : Nat) : Int) - 1).toNat) * 1) (cs := (L.map iv)) (ds := ((L.set (k - 1) (L.getD k 0)).map iv)) (zz := 1) (.tmp 45) (.tmp 39) rfl (by kernel_rfl) (by kernel_rfl) (fun _ d hd => by simp only [AV.cellsOf, List.mem_cons, List.not_mem_nil, or_false] at hd; subst hd; rfl) (by kernel_rfl) (by simp; omega) (Ct.swp_one (by omega))) ⟨I0, I0, T0⟩ ⟨rfl, T0⟩ rfl (dR (ZU (off := k * 1) (.tmp 34) (.tmp 35) rfl U24 (by kernel_rfl) (by omega) (by omega) rfl) ⟨I0, I0, T0⟩ ⟨rfl, T0⟩ T0 (dR (Kb (X := iv (L.getD (k - 1) 0)) (off := k * 1) (cs := ((L.set (k - 1) (L.getD k 0)).map iv)) (ds := ((Ct.swp L k).map iv)) (zz := 1) (.tmp 46) (.tmp 44) rfl (by kernel_rfl) (by kernel_rfl) (fun _ d hd => by simp only [AV.cellsOf, List.mem_cons, List.not_mem_nil, or_false] at hd; subst hd; rfl) (by kernel_rfl) (by simp; omega) Ct.swp_two) ⟨I0, I0, T0⟩ ⟨rfl, T0⟩ rfl (dE ?_))))))))))))))))))) (by kernel_rfl)
 show ETri J w0 _ _ _
 refine kW 48 [(1, .row true 3 1 (0 + xs.length) ((Ct.swp L k).map iv))] [(2, .v (.slice none 0 0)), (3, .own 1), (4, iv i), (5, iv k), (11, bv true), (28, bv true)] (YV (Zd (Za (pM (mT 5 (iv k)) (oC (Yd (c := ((k : Nat) : Int) - 1) rfl (w64 (by omega) (by omega) (by omega))) I0 I0 (pM (aT 30 (iv (((k : Nat) : Int) - 1))) (kN 48 [(1, .row true 3 1 (0 + xs.length) ((Ct.swp L k).map iv))] [(2, .v (.slice none 0 0)), (3, .own 1), (4, iv i), (5, iv (((k : Nat) : Int) - 1)), (11, bv true), (28, bv true)] (Zd ?_))))))))
 refine Yn ⟨(k - 1, Ct.swp L k), hI.step (by omega) (by have := hs2; omega) (by have := hs3; rw [Ct.getD_at (by omega), Ct.getD_at (by omega)] at this; exact this)⟩ (show k - 1 < k by omega) ?_
 show Wk _ _ (ofL [(1, .row true 3 1 (0 + xs.length) ((Ct.swp L k).map iv))]) (ofT 48 [(2, .v (.slice none 0 0)), (3, .own 1), (4, iv i), (5, iv ((k - 1) : Nat)), (11, bv true)])
 rw [show (((k - 1 : Nat) : Nat) : Int) = ((k : Nat) : Int) - 1 by omega]
 exact Zq _ _ rfl (by kernel_rfl) (by kernel_rfl)
 refine Z8 (dM (mT 5 (iv k)) (dC (ZW rfl (dT hs2)) I0 I0 (dM (mT 16 (bv true)) (dM (mT 3 (.own 1)) (dM (mT 5 (iv k)) (dC (Yd (c := ((k : Nat) : Int) - 1) rfl (w64 (by omega) (by omega) (by omega))) I0 I0 (dR (ZU (off := ((((k : Nat) : Int) - 1).toNat) * 1) (.tmp 18) (.tmp 20) rfl U24 (by kernel_rfl) (by omega) (by omega) rfl) ⟨I0, I0, T0⟩ ⟨rfl, T0⟩ T0 (dB (Yb  (Y := .row true 3 1 (0 + xs.length) (L.map iv)) (.tmp 21) rfl U3 rfl (Ct.row_pred (by omega) (by omega))) I0 rfl (dM (mT 3 (.own 1)) (dM (mT 5 (iv k)) (dR (ZU (off := k * 1) (.tmp 23) (.tmp 24) rfl U24 (by kernel_rfl) (by omega) (by omega) rfl) ⟨I0, I0, T0⟩ ⟨rfl, T0⟩ T0 (dB (Yb  (Y := .row true 3 1 (0 + xs.length) (L.map iv)) (.tmp 25) rfl U3 rfl (Ct.row_at (by omega))) I0 rfl (dC (ZW rfl (dF hs3)) I0 I0 (dP (Zi (.tmp 17) (.tmp 27) (.const (.bool false)) true (bv false) (bv false) rfl) (dE ?_))))))))))))))) (by kernel_rfl)
 show ETri J w0 _ _ _
 refine kW 48 [(1, .row true 3 1 (0 + xs.length) (L.map iv))] [(2, .v (.slice none 0 0)), (3, .own 1), (4, iv i), (5, iv k), (11, bv true), (28, bv false)] (Zd (Zx rfl (Yr (Zw (Zw (t_hit (YV (Zd (Za (pM (mT 4 (iv i)) (oC (Ki (c := ((i + 1 : Nat) : Int)) rfl (w64 (by omega) (by omega) (by omega))) I0 I0 ?_)))))))))))
 refine pM (aT 13 (iv (i + 1 : Nat))) (kN 48 [(1, .row true 3 1 (0 + xs.length) (L.map iv))] [(2, .v (.slice none 0 0)), (3, .own 1), (4, iv (i + 1 : Nat)), (5, iv k), (11, bv true), (28, bv false)] (Zd ?_))
 refine Yn ⟨(i + 1, L), by dsimp only; omega, by dsimp only; omega, hI.out (by omega) (fun _ => by have := hs3; rw [Ct.getD_at (by omega), Ct.getD_at (by omega)] at this; omega)⟩ (show xs.length + 1 - (i + 1) < xs.length + 1 - i by omega) ?_
 show Wk _ _ (ofL [(1, .row true 3 1 (0 + xs.length) (L.map iv))]) (ofT 48 [(2, .v (.slice none 0 0)), (3, .own 1), (4, iv ((i + 1) : Nat))])
 exact Zq _ _ rfl (by kernel_rfl) (by kernel_rfl)
 refine Z8 (dM (mT 5 (iv k)) (dC (ZW rfl (dF hs2)) I0 I0 (dM (mT 16 (bv false)) (dK (dK (dK (dK (dK (dK (dK (dK (dK (dK (dP (Zi (.tmp 17) (.tmp 27) (.const (.bool false)) false (.v (.tuple #[])) (bv false) rfl) (dE ?_))))))))))))))) (by kernel_rfl)
 show ETri J w0 _ _ _
 refine kW 48 [(1, .row true 3 1 (0 + xs.length) (L.map iv))] [(2, .v (.slice none 0 0)), (3, .own 1), (4, iv i), (5, iv k), (11, bv true), (28, bv false)] (Zd (Zx rfl (Yr (Zw (Zw (t_hit (YV (Zd (Za (pM (mT 4 (iv i)) (oC (Ki (c := ((i + 1 : Nat) : Int)) rfl (w64 (by omega) (by omega) (by omega))) I0 I0 ?_)))))))))))
 refine pM (aT 13 (iv (i + 1 : Nat))) (kN 48 [(1, .row true 3 1 (0 + xs.length) (L.map iv))] [(2, .v (.slice none 0 0)), (3, .own 1), (4, iv (i + 1 : Nat)), (5, iv k), (11, bv true), (28, bv false)] (Zd ?_))
 refine Yn ⟨(i + 1, L), by dsimp only; omega, by dsimp only; omega, hI.out (by omega) (fun h0 => absurd h0 (by have := hs2; omega))⟩ (show xs.length + 1 - (i + 1) < xs.length + 1 - i by omega) ?_
 show Wk _ _ (ofL [(1, .row true 3 1 (0 + xs.length) (L.map iv))]) (ofT 48 [(2, .v (.slice none 0 0)), (3, .own 1), (4, iv ((i + 1) : Nat))])
 exact Zq _ _ rfl (by kernel_rfl) (by kernel_rfl)
 refine Za (pM (mT 4 (iv i)) (pM (mT 3 (.own 1)) (oB (sp_lenOwn (.tmp 9) rfl U24) I0 rfl (oC (YD rfl (dF hs1)) I0 I0 (kN 48 [(1, .row true 3 1 (0 + xs.length) (L.map iv))] [(2, .v (.slice none 0 0)), (3, .own 1), (4, iv i), (11, bv false)] (Zd (Zx rfl (Yr (Zw (Zw (t_hit ?_)))))))))))
 refine Zd (Zb (Za (pM (mT 3 (.own 1)) (pM (aT 47 (.own 1)) (Zu (Zd (Zt ?_)))))))
 have hL2 : L = Ct.srt xs := hL.eq (by omega)
 subst hL2
 refine tri_give1 1 Tryz.results60 (.tmp rfl) rfl rfl
theorem sorted_c (xs : List Int) (lx : xs.length ≤ 100) : Ctr Tryz.prog J 60 [Zh xs] (Zh (Ct.srt xs)) := by
 refine ZL Tryz.func60 rfl (by intro X hX; simp at hX; subst hX; exact Yl _) (n := 48) rfl (by simp) (fun w0 => ?_)
 refine kW 48 [] [(0, Zh xs)] (Zb (Za (pM (Yt (.const (.slice none 0 0)) (.v (.slice none 0 0)) rfl) (kN 48 [] [(0, Zh xs), (2, .v (.slice none 0 0))] (Zd (Zb (Za (pM (mT 0 (Zh xs)) (Yi rfl (sp_callO (c := .func 87) (xs := #[.tmp 6]) [] (CopyInts_o xs (Nat.le_trans lx (by decide)) 1) rfl (by kernel_rfl) rfl (Xs := [Zh xs]) rfl rfl rfl) ⟨I0, I0, T0⟩ T0 rfl (pM (aT 7 (.own 1)) (kN 48 [(1, .row true 3 1 (0 + xs.length) (xs.map iv))] [(2, .v (.slice none 0 0)), (3, .own 1)] ?_)))))))))))
 refine Zd (Zb (Zb (Za (pM (aC (.int .i64 1)) (kN 48 [(1, .row true 3 1 (0 + xs.length) (xs.map iv))] [(2, .v (.slice none 0 0)), (3, .own 1), (4, iv 1)] (Zd (ZJ ?_)))))))
 refine Yz (σ := {s : Nat × List Int // 1 ≤ s.1 ∧ s.1 ≤ xs.length + 1 ∧ Ct.Srd xs s.2 s.1}) (fun s => (ofL [(1, .row true 3 1 (0 + xs.length) (s.1.2.map iv))], ofT 48 [(2, .v (.slice none 0 0)), (3, .own 1), (4, iv s.1.1)])) (fun s => xs.length + 1 - s.1.1) ⟨(1, xs), Nat.le_refl 1, by dsimp only; omega, Ct.Srd.one xs⟩ (Zq _ _ rfl (by kernel_rfl) (by kernel_rfl)) (fun s => ?_)
 obtain ⟨⟨i, L⟩, hi0, hi1, hL⟩ := s
 show ETri J w0 (ofL [(1, .row true 3 1 (0 + xs.length) (L.map iv))]) (ofT 48 [(2, .v (.slice none 0 0)), (3, .own 1), (4, iv i)]) _
 dsimp only at hi0 hi1 hL
 have hLl : L.length = xs.length := hL.perm.length_eq
 refine Zb (Zb ?_)
 by_cases hs1 : ((i : Nat) : Int) < (((0 + xs.length) : Nat) : Int)
 refine Za (pM (mT 4 (iv i)) (pM (mT 3 (.own 1)) (oB (sp_lenOwn (.tmp 9) rfl U24) I0 rfl (oC (YD rfl (dT hs1)) I0 I0 (kN 48 [(1, .row true 3 1 (0 + xs.length) (L.map iv))] [(2, .v (.slice none 0 0)), (3, .own 1), (4, iv i), (11, bv true)] (Zd (Zy rfl (Zr (Zd (Zb (ZJ ?_)))))))))))
 refine Zb (Za (pM (mT 4 (iv i)) (pM (aT 14 (iv i)) (kN 48 [(1, .row true 3 1 (0 + xs.length) (L.map iv))] [(2, .v (.slice none 0 0)), (3, .own 1), (4, iv i), (5, iv i), (11, bv true)] (Zd (ZJ ?_))))))
 refine Yz (σ := {s : Nat × List Int // Ct.Ins xs s.2 i s.1}) (fun s => (ofL [(1, .row true 3 1 (0 + xs.length) (s.1.2.map iv))], ofT 48 [(2, .v (.slice none 0 0)), (3, .own 1), (4, iv i), (5, iv s.1.1), (11, bv true)])) (fun s => s.1.1) ⟨(i, L), hL.ins⟩ (Zq _ _ rfl (by kernel_rfl) (by kernel_rfl)) (fun s => ?_)
 obtain ⟨⟨k, L⟩, hI⟩ := s
 show ETri J w0 (ofL [(1, .row true 3 1 (0 + xs.length) (L.map iv))]) (ofT 48 [(2, .v (.slice none 0 0)), (3, .own 1), (4, iv i), (5, iv k), (11, bv true)]) _
 dsimp only at hI
 have hLl : L.length = xs.length := hI.perm.length_eq
 have hki := hI.le
 refine Zb (Zb ?_)
 by_cases hs2 : 0 < ((k : Nat) : Int)
 by_cases hs3 : (L.getD k 0) < (L.getD (k - 1) 0)
 refine Z8 (dM (mT 5 (iv k)) (dC (ZW rfl (dT hs2)) I0 I0 (dM (mT 16 (bv true)) (dM (mT 3 (.own 1)) (dM (mT 5 (iv k)) (dC (Yd (c := ((k : Nat) : Int) - 1) rfl (w64 (by omega) (by omega) (by omega))) I0 I0 (dR (ZU (off := ((((k : Nat) : Int) - 1).toNat) * 1) (.tmp 18) (.tmp 20) rfl U24 (by kernel_rfl) (by omega) (by omega) rfl) ⟨I0, I0, T0⟩ ⟨rfl, T0⟩ T0 (dB (Yb  (Y := .row true 3 1 (0 + xs.length) (L.map iv)) (.tmp 21) rfl U3 rfl (Ct.row_pred (by omega) (by omega))) I0 rfl (dM (mT 3 (.own 1)) (dM (mT 5 (iv k)) (dR (ZU (off := k * 1) (.tmp 23) (.tmp 24) rfl U24 (by kernel_rfl) (by omega) (by omega) rfl) ⟨I0, I0, T0⟩ ⟨rfl, T0⟩ T0 (dB (Yb  (Y := .row true 3 1 (0 + xs.length) (L.map iv)) (.tmp 25) rfl U3 rfl (Ct.row_at (by omega))) I0 rfl (dC (ZW rfl (dT hs3)) I0 I0 (dP (Zi (.tmp 17) (.tmp 27) (.const (.bool false)) true (bv true) (bv false) rfl) (dE ?_))))))))))))))) (by kernel_rfl)
 show ETri J w0 _ _ _
 refine kW 48 [(1, .row true 3 1 (0 + xs.length) (L.map iv))] [(2, .v (.slice none 0 0)), (3, .own 1), (4, iv i), (5, iv k), (11, bv true), (28, bv true)] (Zd (Zy rfl (Zr (Zd (Zb (ZJ ?_))))))
 refine Z8 (dM (mT 3 (.own 1)) (dM (mT 5 (iv k)) (dC (Yd (c := ((k : Nat) : Int) - 1) rfl (w64 (by omega) (by omega) (by omega))) I0 I0 (dM (mT 3 (.own 1)) (dM (mT 5 (iv k)) (dM (mT 3 (.own 1)) (dM (mT 5 (iv k)) (dR (ZU (off := k * 1) (.tmp 36) (.tmp 37) rfl U24 (by kernel_rfl) (by omega) (by omega) rfl) ⟨I0, I0, T0⟩ ⟨rfl, T0⟩ T0 (dB (Yb  (Y := .row true 3 1 (0 + xs.length) (L.map iv)) (.tmp 38) rfl U3 rfl (Ct.row_at (by omega))) I0 rfl (dM (mT 3 (.own 1)) (dM (mT 5 (iv k)) (dC (Yd (c := ((k : Nat) : Int) - 1) rfl (w64 (by omega) (by omega) (by omega))) I0 I0 (dR (ZU (off := ((((k : Nat) : Int) - 1).toNat) * 1) (.tmp 40) (.tmp 42) rfl U24 (by kernel_rfl) (by omega) (by omega) rfl) ⟨I0, I0, T0⟩ ⟨rfl, T0⟩ T0 (dB (Yb  (Y := .row true 3 1 (0 + xs.length) (L.map iv)) (.tmp 43) rfl U3 rfl (Ct.row_pred (by omega) (by omega))) I0 rfl (dR (ZU (off := ((((k : Nat) : Int) - 1).toNat) * 1) (.tmp 31) (.tmp 33) rfl U24 (by kernel_rfl) (by omega) (by omega) rfl) ⟨I0, I0, T0⟩ ⟨rfl, T0⟩ T0 (dR (Kb (X := iv (L.getD k 0)) (off := ((((k : Nat) : Int) - 1).toNat) * 1) (cs := (L.map iv)) (ds := ((L.set (k - 1) (L.getD k 0)).map iv)) (zz := 1) (.tmp 45) (.tmp 39) rfl (by kernel_rfl) (by kernel_rfl) (fun _ d hd => by simp only [AV.cellsOf, List.mem_cons, List.not_mem_nil, or_false] at hd; subst hd; rfl) (by kernel_rfl) (by simp; omega) (Ct.swp_one (by omega))) ⟨I0, I0, T0⟩ ⟨rfl, T0⟩ rfl (dR (ZU (off := k * 1) (.tmp 34) (.tmp 35) rfl U24 (by kernel_rfl) (by omega) (by omega) rfl) ⟨I0, I0, T0⟩ ⟨rfl, T0⟩ T0 (dR (Kb (X := iv (L.getD (k - 1) 0)) (off := k * 1) (cs := ((L.set (k - 1) (L.getD k 0)).map iv)) (ds := ((Ct.swp L k).map iv)) (zz := 1) (.tmp 46) (.tmp 44) rfl (by kernel_rfl) (by kernel_rfl) (fun _ d hd => by simp only [AV.cellsOf, List.mem_cons, List.not_mem_nil, or_false] at hd; subst hd; rfl) (by kernel_rfl) (by simp; omega) Ct.swp_two) ⟨I0, I0, T0⟩ ⟨rfl, T0⟩ rfl (dE ?_))))))))))))))))))) (by kernel_rfl)
 show ETri J w0 _ _ _
 refine kW 48 [(1, .row true 3 1 (0 + xs.length) ((Ct.swp L k).map iv))] [(2, .v (.slice none 0 0)), (3, .own 1), (4, iv i), (5, iv k), (11, bv true), (28, bv true)] (YV (Zd (Za (pM (mT 5 (iv k)) (oC (Yd (c := ((k : Nat) : Int) - 1) rfl (w64 (by omega) (by omega) (by omega))) I0 I0 (pM (aT 30 (iv (((k : Nat) : Int) - 1))) (kN 48 [(1, .row true 3 1 (0 + xs.length) ((Ct.swp L k).map iv))] [(2, .v (.slice none 0 0)), (3, .own 1), (4, iv i), (5, iv (((k : Nat) : Int) - 1)), (11, bv true), (28, bv true)] (Zd ?_))))))))
 refine Yn ⟨(k - 1, Ct.swp L k), hI.step (by omega) (by have := hs2; omega) (by have := hs3; rw [Ct.getD_at (by omega), Ct.getD_at (by omega)] at this; exact this)⟩ (show k - 1 < k by omega) ?_
 show Wk _ _ (ofL [(1, .row true 3 1 (0 + xs.length) ((Ct.swp L k).map iv))]) (ofT 48 [(2, .v (.slice none 0 0)), (3, .own 1), (4, iv i), (5, iv ((k - 1) : Nat)), (11, bv true)])
 rw [show (((k - 1 : Nat) : Nat) : Int) = ((k : Nat) : Int) - 1 by omega]
 exact Zq _ _ rfl (by kernel_rfl) (by kernel_rfl)
 refine Z8 (dM (mT 5 (iv k)) (dC (ZW rfl (dT hs2)) I0 I0 (dM (mT 16 (bv true)) (dM (mT 3 (.own 1)) (dM (mT 5 (iv k)) (dC (Yd (c := ((k : Nat) : Int) - 1) rfl (w64 (by omega) (by omega) (by omega))) I0 I0 (dR (ZU (off := ((((k : Nat) : Int) - 1).toNat) * 1) (.tmp 18) (.tmp 20) rfl U24 (by kernel_rfl) (by omega) (by omega) rfl) ⟨I0, I0, T0⟩ ⟨rfl, T0⟩ T0 (dB (Yb  (Y := .row true 3 1 (0 + xs.length) (L.map iv)) (.tmp 21) rfl U3 rfl (Ct.row_pred (by omega) (by omega))) I0 rfl (dM (mT 3 (.own 1)) (dM (mT 5 (iv k)) (dR (ZU (off := k * 1) (.tmp 23) (.tmp 24) rfl U24 (by kernel_rfl) (by omega) (by omega) rfl) ⟨I0, I0, T0⟩ ⟨rfl, T0⟩ T0 (dB (Yb  (Y := .row true 3 1 (0 + xs.length) (L.map iv)) (.tmp 25) rfl U3 rfl (Ct.row_at (by omega))) I0 rfl (dC (ZW rfl (dF hs3)) I0 I0 (dP (Zi (.tmp 17) (.tmp 27) (.const (.bool false)) true (bv false) (bv false) rfl) (dE ?_))))))))))))))) (by kernel_rfl)
 show ETri J w0 _ _ _
 refine kW 48 [(1, .row true 3 1 (0 + xs.length) (L.map iv))] [(2, .v (.slice none 0 0)), (3, .own 1), (4, iv i), (5, iv k), (11, bv true), (28, bv false)] (Zd (Zx rfl (Yr (Zw (Zw (t_hit (YV (Zd (Za (pM (mT 4 (iv i)) (oC (Ki (c := ((i + 1 : Nat) : Int)) rfl (w64 (by omega) (by omega) (by omega))) I0 I0 ?_)))))))))))
 refine pM (aT 13 (iv (i + 1 : Nat))) (kN 48 [(1, .row true 3 1 (0 + xs.length) (L.map iv))] [(2, .v (.slice none 0 0)), (3, .own 1), (4, iv (i + 1 : Nat)), (5, iv k), (11, bv true), (28, bv false)] (Zd ?_))
 refine Yn ⟨(i + 1, L), by dsimp only; omega, by dsimp only; omega, hI.out (by omega) (fun _ => by have := hs3; rw [Ct.getD_at (by omega), Ct.getD_at (by omega)] at this; omega)⟩ (show xs.length + 1 - (i + 1) < xs.length + 1 - i by omega) ?_
 show Wk _ _ (ofL [(1, .row true 3 1 (0 + xs.length) (L.map iv))]) (ofT 48 [(2, .v (.slice none 0 0)), (3, .own 1), (4, iv ((i + 1) : Nat))])
 exact Zq _ _ rfl (by kernel_rfl) (by kernel_rfl)
 refine Z8 (dM (mT 5 (iv k)) (dC (ZW rfl (dF hs2)) I0 I0 (dM (mT 16 (bv false)) (dK (dK (dK (dK (dK (dK (dK (dK (dK (dK (dP (Zi (.tmp 17) (.tmp 27) (.const (.bool false)) false (.v (.tuple #[])) (bv false) rfl) (dE ?_))))))))))))))) (by kernel_rfl)
 show ETri J w0 _ _ _
 refine kW 48 [(1, .row true 3 1 (0 + xs.length) (L.map iv))] [(2, .v (.slice none 0 0)), (3, .own 1), (4, iv i), (5, iv k), (11, bv true), (28, bv false)] (Zd (Zx rfl (Yr (Zw (Zw (t_hit (YV (Zd (Za (pM (mT 4 (iv i)) (oC (Ki (c := ((i + 1 : Nat) : Int)) rfl (w64 (by omega) (by omega) (by omega))) I0 I0 ?_)))))))))))
 refine pM (aT 13 (iv (i + 1 : Nat))) (kN 48 [(1, .row true 3 1 (0 + xs.length) (L.map iv))] [(2, .v (.slice none 0 0)), (3, .own 1), (4, iv (i + 1 : Nat)), (5, iv k), (11, bv true), (28, bv false)] (Zd ?_))
 refine Yn ⟨(i + 1, L), by dsimp only; omega, by dsimp only; omega, hI.out (by omega) (fun h0 => absurd h0 (by have := hs2; omega))⟩ (show xs.length + 1 - (i + 1) < xs.length + 1 - i by omega) ?_
 show Wk _ _ (ofL [(1, .row true 3 1 (0 + xs.length) (L.map iv))]) (ofT 48 [(2, .v (.slice none 0 0)), (3, .own 1), (4, iv ((i + 1) : Nat))])
 exact Zq _ _ rfl (by kernel_rfl) (by kernel_rfl)
 refine Za (pM (mT 4 (iv i)) (pM (mT 3 (.own 1)) (oB (sp_lenOwn (.tmp 9) rfl U24) I0 rfl (oC (YD rfl (dF hs1)) I0 I0 (kN 48 [(1, .row true 3 1 (0 + xs.length) (L.map iv))] [(2, .v (.slice none 0 0)), (3, .own 1), (4, iv i), (11, bv false)] (Zd (Zx rfl (Yr (Zw (Zw (t_hit ?_)))))))))))
 refine Zd (Zb (Za (pM (mT 3 (.own 1)) (pM (aT 47 (.own 1)) (Zu (Zd (Zt ?_)))))))
 refine Zv Tryz.results60 (.tmp rfl) ?_
 have hL2 : L = Ct.srt xs := hL.eq (by omega)
 subst hL2
 exact congrArg (fun q => AV.sl 1 q ((Ct.srt xs).map iv)) (by rw [Ct.srt_len, Nat.zero_add])
end Go.Proofs.YtgbgfkhkjlakbaaGreat

namespace Go.Proofs.YtgbgfkhkjlakbaaGreat
set_option maxRecDepth 100000
set_option maxHeartbeats 6400000
open Go.RowKit Go.Deep
variable {J : World → Prop}
theorem CopyCf_c {c : Cf} (HC : Rd.CgOk c) : Ctr Tryz.prog J 59 [.agg (Rd.cCg c)] (.agg (Rd.cCg c)) := by
 refine ZL Tryz.func59 rfl (by intro X hX; simp only [List.mem_cons, List.not_mem_nil, or_false] at hX; rcases hX with rfl; exact ZQ (Rd.plain_cg c)) (n := 20) rfl (by simp) (fun w0 => ?_)
 refine kW 20 [] [(0, .agg (Rd.cCg c))] (Zb (Za (Yi rfl (Yq (X := .agg (Rd.cCg c)) (k := 1) (.tmp 0) rfl rfl) ⟨I0, T0⟩ T0 rfl (Yi rfl (Y4 (z := .agg #[.slice none 0 0, .slice none 0 0, .int .i64 0, .slice none 0 0, .slice none 0 0, .int .i64 0]) (k := 2) rfl (by kernel_rfl)) T0 T0 rfl (kN 20 [(1, .box 29 (Rd.cCg c)), (2, .box 29 [.v (.slice none 0 0), .v (.slice none 0 0), iv 0, .v (.slice none 0 0), .v (.slice none 0 0), iv 0])] [(1, .box 1 0), (2, .box 2 0)] (Zd (Zb ?_)))))))
 refine Z8 (dA (fb 0 1 U29 1) I0 (dB (lb (Zh c.sh) 3 U24) I0 rfl (dC (Zk (c := .func 87) (xs := #[.tmp 4]) [] (CopyInts_c c.sh (Nat.le_trans HC.lsh (by decide))) rfl (by kernel_rfl) rfl (Xs := [Zh c.sh]) rfl rfl rfl) I0 I0 (dA (fb 1 1 U29 1) I0 (dB (lb (Zh c.st) 6 U24) I0 rfl (dC (Zk (c := .func 87) (xs := #[.tmp 7]) [] (CopyInts_c c.st (Nat.le_trans HC.lst (by decide))) rfl (by kernel_rfl) rfl (Xs := [Zh c.st]) rfl rfl rfl) I0 I0 (dA (fb 2 1 U29 1) I0 (dB (lb (iv c.cor) 9 U3) I0 rfl (dA (fb 3 1 U29 1) I0 (dB (lb (Zh c.se) 11 U24) I0 rfl (dC (Zk (c := .func 87) (xs := #[.tmp 12]) [] (CopyInts_c c.se (Nat.le_trans HC.lse (by decide))) rfl (by kernel_rfl) rfl (Xs := [Zh c.se]) rfl rfl rfl) I0 I0 (dA (fb 4 1 U29 1) I0 (dB (lb (Zh c.fa) 14 U24) I0 rfl (dC (Zk (c := .func 87) (xs := #[.tmp 15]) [] (CopyInts_c c.fa (Nat.le_trans HC.lfa (by decide))) rfl (by kernel_rfl) rfl (Xs := [Zh c.fa]) rfl rfl rfl) I0 I0 (dA (fb 5 1 U29 1) I0 (dB (lb (iv c.val) 17 U3) I0 rfl (dR (sp_bldN [0, 1, 2, 3, 4, 5] [.tmp 5, .tmp 8, .tmp 10, .tmp 13, .tmp 16, .tmp 18] [.fr (Zh c.sh), .fr (Zh c.st), iv c.cor, .fr (Zh c.se), .fr (Zh c.fa), iv c.val] [.inr 0, .inr 1, .inr 2, .inr 3, .inr 4, .inr 5] rfl rfl rfl rfl rfl (fun _ => by kernel_rfl) rfl (ds := [.fr (Zh c.sh), .fr (Zh c.st), iv c.cor, .fr (Zh c.se), .fr (Zh c.fa), iv c.val]) rfl) ⟨I0, I0, I0, I0, I0, I0, T0⟩ T0 T0 (dR (ZV (T0 := 29) (X := .agg [.fr (Zh c.sh), .fr (Zh c.st), iv c.cor, .fr (Zh c.se), .fr (Zh c.fa), iv c.val]) (cs := [.v (.slice none 0 0), .v (.slice none 0 0), iv 0, .v (.slice none 0 0), .v (.slice none 0 0), iv 0]) (ds := [.fr (Zh c.sh), .fr (Zh c.st), iv c.cor, .fr (Zh c.se), .fr (Zh c.fa), iv c.val]) (z := 6) (.tmp 2) (.tmp 19) rfl (by kernel_rfl) (by kernel_rfl) (by kernel_rfl) (of_decide_eq_true (by kernel_rfl)) (by kernel_rfl)) ⟨I0, I0, T0⟩ ⟨rfl, T0⟩ rfl (dE ?_))))))))))))))))))) (by kernel_rfl)
 show ETri J w0 _ _ _
 refine Zd (Zt ?_)
 refine Zv Tryz.results59 (.cellS rfl rfl U29 rfl (z := 6) (by kernel_rfl) rfl (by decide)) ?_
 exact rfl
theorem canonical_c {p : Fm} {sh A B se fa : List Int} {val : Int} (HC : Rd.CgOk (Ct.two sh A B se fa val)) : Ctr Tryz.prog J 26 [.agg (cFm p), .agg (Rd.cCg (Ct.two sh A B se fa val))] (.agg (Rd.cCg ⟨sh, Ct.srtP p.top A B, ((A.length : Nat) : Int), se, fa, val⟩)) := by
 have hl0 : (A ++ B).length ≤ 100 := HC.lst
 have hl2 : (A ++ B).length = A.length + B.length := List.length_append
 refine ZL Tryz.func26 rfl (by intro X hX; simp only [List.mem_cons, List.not_mem_nil, or_false] at hX; rcases hX with rfl | rfl; exact ZQ (YC p); exact ZQ (Rd.plain_cg _)) (n := 26) rfl (by simp) (fun w0 => ?_)
 refine kW 26 [] [(0, .agg (cFm p)), (1, .agg (Rd.cCg (Ct.two sh A B se fa val)))] (Zb (Za (Yi rfl (Yq (X := .agg (cFm p)) (k := 1) (.tmp 0) rfl rfl) ⟨I0, T0⟩ T0 rfl (Yi rfl (Yq (X := .agg (Rd.cCg (Ct.two sh A B se fa val))) (k := 2) (.tmp 1) rfl rfl) ⟨I0, T0⟩ T0 rfl (Yi rfl (Y4 (z := .agg #[.slice none 0 0, .slice none 0 0, .int .i64 0, .slice none 0 0, .slice none 0 0, .int .i64 0]) (k := 3) rfl (by kernel_rfl)) T0 T0 rfl (kN 26 [(1, .box 27 (cFm p)), (2, .box 29 (Rd.cCg (Ct.two sh A B se fa val))), (3, .box 29 [.v (.slice none 0 0), .v (.slice none 0 0), iv 0, .v (.slice none 0 0), .v (.slice none 0 0), iv 0])] [(2, .box 1 0), (3, .box 2 0), (4, .box 3 0)] (Zd (Zb (Za (oB (Zn (Y := .box 29 (Rd.cCg (Ct.two sh A B se fa val))) (ds := Rd.cCg (Ct.two sh A B se fa val)) (z := 6) (.tmp 3) rfl U29 rfl (by kernel_rfl) (by decide) (by kernel_rfl) (by kernel_rfl)) I0 rfl (oC (Zk (c := .func 59) (xs := #[.tmp 6]) [] (CopyCf_c HC) rfl (by kernel_rfl) rfl (Xs := [.agg (Rd.cCg (Ct.two sh A B se fa val))]) rfl rfl rfl) I0 I0 ?_)))))))))))
 refine Yi rfl (Y4 (z := .agg #[.slice none 0 0, .slice none 0 0, .int .i64 0, .slice none 0 0, .slice none 0 0, .int .i64 0]) (k := 4) rfl (by kernel_rfl)) T0 T0 rfl (Yi rfl (ZV (T0 := 29) (X := .agg [.fr (Zh sh), .fr (Zh (A ++ B)), iv A.length, .fr (Zh se), .fr (Zh fa), iv val]) (cs := [.v (.slice none 0 0), .v (.slice none 0 0), iv 0, .v (.slice none 0 0), .v (.slice none 0 0), iv 0]) (ds := [.fr (Zh sh), .fr (Zh (A ++ B)), iv A.length, .fr (Zh se), .fr (Zh fa), iv val]) (z := 6) (.tmp 5) (.tmp 7) rfl (by kernel_rfl) (by kernel_rfl) (by kernel_rfl) (of_decide_eq_true (by kernel_rfl)) (by kernel_rfl)) ⟨I0, .inr (.inr (.inl ⟨_, rfl, rfl⟩)), T0⟩ ⟨rfl, T0⟩ rfl (kN 26 [(1, .box 27 (cFm p)), (2, .box 29 (Rd.cCg (Ct.two sh A B se fa val))), (3, .box 29 [.v (.slice none 0 0), .v (.slice none 0 0), iv 0, .v (.slice none 0 0), .v (.slice none 0 0), iv 0]), (4, .box 29 [.fr (Zh sh), .fr (Zh (A ++ B)), iv A.length, .fr (Zh se), .fr (Zh fa), iv val])] [(2, .box 1 0), (3, .box 2 0), (4, .box 3 0), (5, .box 4 0)] (Zd (Zb (Zb ?_)))))
 by_cases hs1 : p.top = 1
 refine Za (oA (fb 1 2 U27 1) I0 (oB (lb (iv p.top) 8 U3) I0 rfl (oC (Ya rfl (dT hs1)) I0 I0 (kN 26 [(2, .box 29 (Rd.cCg (Ct.two sh A B se fa val))), (3, .box 29 [.v (.slice none 0 0), .v (.slice none 0 0), iv 0, .v (.slice none 0 0), .v (.slice none 0 0), iv 0]), (4, .box 29 [.fr (Zh sh), .fr (Zh (A ++ B)), iv A.length, .fr (Zh se), .fr (Zh fa), iv val])] [(3, .box 2 0), (4, .box 3 0), (5, .box 4 0), (10, bv true)] (Zd (Zy rfl ?_))))))
 refine Z8 (dA (fb 1 3 U29 1) I0 (dB (lb (Zh (A ++ B)) 11 U24) I0 rfl (dA (fb 2 3 U29 1) I0 (dB (lb (iv A.length) 13 U3) I0 rfl (dC (sp_sliceE (q := A.length) (l := 0) (h := A.length) (ds := (A.map iv)) (.tmp 12) none (some (.tmp 14)) rfl U24 (by kernel_rfl) [] [(.tmp 14, iv A.length)] (.inl ⟨rfl, rfl, rfl⟩) (.inr ⟨_, _, rfl, rfl⟩) (Nat.zero_le _) (by omega) (by simp) rfl) I0 I0 (dR (sp_callO (c := .func 60) (xs := #[.tmp 15]) [] (sorted_o A (by omega) 5) rfl (by kernel_rfl) rfl (Xs := [Zh A]) rfl rfl rfl) ⟨I0, I0, T0⟩ T0 rfl (dA (fb 1 3 U29 1) I0 (dB (lb (Zh (A ++ B)) 17 U24) I0 rfl (dA (fb 2 3 U29 1) I0 (dB (lb (iv A.length) 19 U3) I0 rfl (dC (sp_sliceE (q := B.length) (l := A.length) (h := (A ++ B).length) (ds := (B.map iv)) (.tmp 18) (some (.tmp 20)) none rfl U24 (by kernel_rfl) [(.tmp 20, iv A.length)] [] (.inr ⟨_, _, rfl, rfl⟩) (.inl ⟨rfl, rfl, rfl⟩) (by omega) (Nat.le_refl _) Ct.dropB (by omega)) I0 I0 (dC (Zk (c := .func 60) (xs := #[.tmp 21]) [] (sorted_c B (by omega)) rfl (by kernel_rfl) rfl (Xs := [Zh B]) rfl rfl rfl) I0 I0 (dR (KI (n := (0 + A.length)) (cs := ((Ct.srt A).map iv)) (fr := true) (m := (Ct.srt B).length) (ds := ((Ct.srt B).map iv)) (⟨U24, by kernel_rfl, by decide⟩ : Elt Tryz.prog 24 3 1 8) (.tmp 16) (.tmp 22) rfl (fun _ d hd => by obtain ⟨x, _, rfl⟩ := List.mem_map.1 hd; rfl) (by have := Ct.srt_len B; unfold maxLen; omega) (by have := Ct.srt_len B; omega) (fun d hd => by obtain ⟨x, _, rfl⟩ := List.mem_map.1 hd; rfl) (es := ((Ct.srt A ++ Ct.srt B).map iv)) (by rw [unfr_ints, List.map_append])) ⟨I0, .inr (.inl rfl), T0⟩ ⟨rfl, T0⟩ rfl (dA (fb 1 5 U29 1) I0 (dR (ZV (T0 := 29) (X := .own 5) (cs := [.fr (Zh sh), .fr (Zh (A ++ B)), iv A.length, .fr (Zh se), .fr (Zh fa), iv val]) (ds := [.fr (Zh sh), .own 5, iv A.length, .fr (Zh se), .fr (Zh fa), iv val]) (z := 1) (.tmp 24) (.tmp 23) rfl (by kernel_rfl) (by kernel_rfl) (by kernel_rfl) (of_decide_eq_true (by kernel_rfl)) (by kernel_rfl)) ⟨I0, I0, T0⟩ ⟨rfl, T0⟩ rfl (dE ?_)))))))))))))))) (by kernel_rfl)
 show ETri J w0 _ _ _
 refine kW 26 [(3, .box 29 [.v (.slice none 0 0), .v (.slice none 0 0), iv 0, .v (.slice none 0 0), .v (.slice none 0 0), iv 0]), (4, .box 29 [.fr (Zh sh), .own 5, iv A.length, .fr (Zh se), .fr (Zh fa), iv val]), (5, .row true 3 1 (0 + A.length + (Ct.srt B).length) ((Ct.srt A ++ Ct.srt B).map iv))] [(4, .box 3 0), (5, .box 4 0)] (Zd (Zb (Za (oB (Zn (Y := .box 29 [.fr (Zh sh), .own 5, iv A.length, .fr (Zh se), .fr (Zh fa), iv val]) (ds := [.fr (Zh sh), .own 5, iv A.length, .fr (Zh se), .fr (Zh fa), iv val]) (z := 6) (.tmp 5) rfl U29 rfl (by kernel_rfl) (by decide) (by kernel_rfl) (by kernel_rfl)) I0 rfl (Yi rfl (ZV (T0 := 29) (X := .agg [.fr (Zh sh), .own 5, iv A.length, .fr (Zh se), .fr (Zh fa), iv val]) (cs := [.v (.slice none 0 0), .v (.slice none 0 0), iv 0, .v (.slice none 0 0), .v (.slice none 0 0), iv 0]) (ds := [.fr (Zh sh), .own 5, iv A.length, .fr (Zh se), .fr (Zh fa), iv val]) (z := 6) (.tmp 4) (.tmp 25) rfl (by kernel_rfl) (by kernel_rfl) (by kernel_rfl) (of_decide_eq_true (by kernel_rfl)) (by kernel_rfl)) ⟨I0, I0, T0⟩ ⟨rfl, T0⟩ rfl (Zu (Zd (Zt ?_))))))))
 refine Zv Tryz.results26 (.cellS rfl rfl U29 rfl (z := 6) (by kernel_rfl) rfl (by decide)) ?_
 unfold Ct.srtP; rw [if_pos hs1]
 exact congrArg (fun q => AV.agg [Zh sh, .sl 1 q ((Ct.srt A ++ Ct.srt B).map iv), iv A.length, Zh se, Zh fa, iv val]) (by rw [List.length_append, Ct.srt_len A, Nat.zero_add])
 refine Za (oA (fb 1 2 U27 1) I0 (oB (lb (iv p.top) 8 U3) I0 rfl (oC (Ya rfl (dF hs1)) I0 I0 (kN 26 [(2, .box 29 (Rd.cCg (Ct.two sh A B se fa val))), (3, .box 29 [.v (.slice none 0 0), .v (.slice none 0 0), iv 0, .v (.slice none 0 0), .v (.slice none 0 0), iv 0]), (4, .box 29 [.fr (Zh sh), .fr (Zh (A ++ B)), iv A.length, .fr (Zh se), .fr (Zh fa), iv val])] [(3, .box 2 0), (4, .box 3 0), (5, .box 4 0), (10, bv false)] (Zd (Zx rfl (Zr (Zd (Zb (Za (oB (Zn (Y := .box 29 [.fr (Zh sh), .fr (Zh (A ++ B)), iv A.length, .fr (Zh se), .fr (Zh fa), iv val]) (ds := [.fr (Zh sh), .fr (Zh (A ++ B)), iv A.length, .fr (Zh se), .fr (Zh fa), iv val]) (z := 6) (.tmp 5) rfl U29 rfl (by kernel_rfl) (by decide) (by kernel_rfl) (by kernel_rfl)) I0 rfl ?_)))))))))))
 refine Yi rfl (ZV (T0 := 29) (X := .agg [.fr (Zh sh), .fr (Zh (A ++ B)), iv A.length, .fr (Zh se), .fr (Zh fa), iv val]) (cs := [.v (.slice none 0 0), .v (.slice none 0 0), iv 0, .v (.slice none 0 0), .v (.slice none 0 0), iv 0]) (ds := [.fr (Zh sh), .fr (Zh (A ++ B)), iv A.length, .fr (Zh se), .fr (Zh fa), iv val]) (z := 6) (.tmp 4) (.tmp 25) rfl (by kernel_rfl) (by kernel_rfl) (by kernel_rfl) (of_decide_eq_true (by kernel_rfl)) (by kernel_rfl)) ⟨I0, I0, T0⟩ ⟨rfl, T0⟩ rfl (Zu (Zd (Zt ?_)))
 refine Zv Tryz.results26 (.cellS rfl rfl U29 rfl (z := 6) (by kernel_rfl) rfl (by decide)) ?_
 unfold Ct.srtP; rw [if_neg hs1]
 exact rfl
theorem rCanonical_ok {p : Fm} (HP : FmOk p) (lS : p.states.length ≤ 60) {sh A B se fa : List Int} {val : Int} (HC : Rd.CgOk (Ct.two sh A B se fa val)) (hv : valE p = 0) (hb : Rd.belB (A ++ B) ((p.states.length : Nat) : Int) = true) : Ctr Tryz.prog J 11 [.agg (cFm p), .agg (Rd.cCg (Ct.two sh A B se fa val))] (.tup [.agg (Rd.cCg (Ct.cnC p (Ct.two sh A B se fa val))), iv (Ct.ctE p (Ct.two sh A B se fa val))]) := by
 have hl0 : (A ++ B).length ≤ 100 := HC.lst
 have hl2 : (A ++ B).length = A.length + B.length := List.length_append
 have hpl : Ct.plB p (Ct.two sh A B se fa val) = true := Ct.two_pl.trans hb
 refine ZL Tryz.func11 rfl (by intro X hX; simp only [List.mem_cons, List.not_mem_nil, or_false] at hX; rcases hX with rfl | rfl; exact ZQ (YC p); exact ZQ (Rd.plain_cg _)) (n := 21) rfl (by simp) (fun w0 => ?_)
 refine kW 21 [] [(0, .agg (cFm p)), (1, .agg (Rd.cCg (Ct.two sh A B se fa val)))] (Zb (Za (Yi rfl (Yq (X := .agg (cFm p)) (k := 1) (.tmp 0) rfl rfl) ⟨I0, T0⟩ T0 rfl (Yi rfl (Yq (X := .agg (Rd.cCg (Ct.two sh A B se fa val))) (k := 2) (.tmp 1) rfl rfl) ⟨I0, T0⟩ T0 rfl (Yi rfl (Y4 (z := .agg #[.slice none 0 0, .slice none 0 0, .int .i64 0, .slice none 0 0, .slice none 0 0, .int .i64 0]) (k := 3) rfl (by kernel_rfl)) T0 T0 rfl (pM (aC (.int .i64 0)) (kN 21 [(1, .box 27 (cFm p)), (2, .box 29 (Rd.cCg (Ct.two sh A B se fa val))), (3, .box 29 [.v (.slice none 0 0), .v (.slice none 0 0), iv 0, .v (.slice none 0 0), .v (.slice none 0 0), iv 0])] [(2, .box 1 0), (3, .box 2 0), (4, .box 3 0), (5, iv 0)] (Zd (Zb (Zb (Za ?_)))))))))))
 refine oB (Zn (Y := .box 27 (cFm p)) (ds := cFm p) (z := 10) (.tmp 2) rfl U27 rfl (by kernel_rfl) (by decide) (by kernel_rfl) (by kernel_rfl)) I0 rfl (oC (Zk (c := .func 22) (xs := #[.tmp 7]) [] (rValidate_c HP) rfl (by kernel_rfl) rfl (Xs := [.agg (cFm p)]) rfl rfl rfl) I0 I0 (pM (aT 8 (iv (valE p))) (kN 21 [(1, .box 27 (cFm p)), (2, .box 29 (Rd.cCg (Ct.two sh A B se fa val))), (3, .box 29 [.v (.slice none 0 0), .v (.slice none 0 0), iv 0, .v (.slice none 0 0), .v (.slice none 0 0), iv 0])] [(2, .box 1 0), (3, .box 2 0), (4, .box 3 0), (5, iv 0), (6, iv (valE p))] (Zd (Zb (Za (pM (mT 6 (iv (valE p))) (oC (ZM rfl (dT' hv)) I0 I0 (kN 21 [(1, .box 27 (cFm p)), (2, .box 29 (Rd.cCg (Ct.two sh A B se fa val))), (3, .box 29 [.v (.slice none 0 0), .v (.slice none 0 0), iv 0, .v (.slice none 0 0), .v (.slice none 0 0), iv 0])] [(2, .box 1 0), (3, .box 2 0), (4, .box 3 0), (5, iv 0), (6, iv (valE p)), (10, bv false)] (Zd (Zx rfl ?_)))))))))))
 refine Zr (Zd (Zb (Zb (Za (oB (Zn (Y := .box 27 (cFm p)) (ds := cFm p) (z := 10) (.tmp 2) rfl U27 rfl (by kernel_rfl) (by decide) (by kernel_rfl) (by kernel_rfl)) I0 rfl (oB (Zn (Y := .box 29 (Rd.cCg (Ct.two sh A B se fa val))) (ds := Rd.cCg (Ct.two sh A B se fa val)) (z := 6) (.tmp 3) rfl U29 rfl (by kernel_rfl) (by decide) (by kernel_rfl) (by kernel_rfl)) I0 rfl (oD (Zk (c := .func 23) (xs := #[.tmp 13, .tmp 14]) [] (ZS (plain_c HP HC) hpl) rfl (by kernel_rfl) rfl (Xs := [.agg (cFm p), .agg (Rd.cCg (Ct.two sh A B se fa val))]) rfl rfl rfl) I0 I0 I0 (oA (ZD rfl rfl) I0 (kN 21 [(1, .box 27 (cFm p)), (2, .box 29 (Rd.cCg (Ct.two sh A B se fa val))), (3, .box 29 [.v (.slice none 0 0), .v (.slice none 0 0), iv 0, .v (.slice none 0 0), .v (.slice none 0 0), iv 0])] [(2, .box 1 0), (3, .box 2 0), (4, .box 3 0), (5, iv 0), (16, bv false)] (Zd (Zx rfl ?_)))))))))))
 refine Zr (Zd (Zb (Za (oB (Zn (Y := .box 27 (cFm p)) (ds := cFm p) (z := 10) (.tmp 2) rfl U27 rfl (by kernel_rfl) (by decide) (by kernel_rfl) (by kernel_rfl)) I0 rfl (oB (Zn (Y := .box 29 (Rd.cCg (Ct.two sh A B se fa val))) (ds := Rd.cCg (Ct.two sh A B se fa val)) (z := 6) (.tmp 3) rfl U29 rfl (by kernel_rfl) (by decide) (by kernel_rfl) (by kernel_rfl)) I0 rfl (oD (Zk (c := .func 26) (xs := #[.tmp 18, .tmp 19]) [] (canonical_c HC) rfl (by kernel_rfl) rfl (Xs := [.agg (cFm p), .agg (Rd.cCg (Ct.two sh A B se fa val))]) rfl rfl rfl) I0 I0 I0 (Yi rfl (ZV (T0 := 29) (X := .agg [.fr (Zh sh), .fr (Zh (Ct.srtP p.top A B)), iv A.length, .fr (Zh se), .fr (Zh fa), iv val]) (cs := [.v (.slice none 0 0), .v (.slice none 0 0), iv 0, .v (.slice none 0 0), .v (.slice none 0 0), iv 0]) (ds := [.fr (Zh sh), .fr (Zh (Ct.srtP p.top A B)), iv A.length, .fr (Zh se), .fr (Zh fa), iv val]) (z := 6) (.tmp 4) (.tmp 20) rfl (by kernel_rfl) (by kernel_rfl) (by kernel_rfl) (of_decide_eq_true (by kernel_rfl)) (by kernel_rfl)) ⟨I0, .inr (.inr (.inl ⟨_, rfl, rfl⟩)), T0⟩ ⟨rfl, T0⟩ rfl (pM (aC (.int .i64 0)) (Zu (Zd (Zt ?_)))))))))))
 refine Y0 Tryz.results11 (.cellS rfl rfl U29 rfl (z := 6) (by kernel_rfl) rfl (by decide)) (.tmp rfl) ?_
 rw [Ct.cnC_o hv hpl, Ct.ctE_o hv hpl]
 exact rfl
theorem rCanonical_err {p : Fm} (HP : FmOk p) {c : Cf} (HC : Rd.CgOk c) (hn : valE p = 0 → Ct.plB p c = false) : Ctr Tryz.prog J 11 [.agg (cFm p), .agg (Rd.cCg c)] (.tup [.agg (Rd.cCg (Ct.cnC p c)), iv (Ct.ctE p c)]) := by
 refine ZL Tryz.func11 rfl (by intro X hX; simp only [List.mem_cons, List.not_mem_nil, or_false] at hX; rcases hX with rfl | rfl; exact ZQ (YC p); exact ZQ (Rd.plain_cg c)) (n := 21) rfl (by simp) (fun w0 => ?_)
 refine kW 21 [] [(0, .agg (cFm p)), (1, .agg (Rd.cCg c))] (Zb (Za (Yi rfl (Yq (X := .agg (cFm p)) (k := 1) (.tmp 0) rfl rfl) ⟨I0, T0⟩ T0 rfl (Yi rfl (Yq (X := .agg (Rd.cCg c)) (k := 2) (.tmp 1) rfl rfl) ⟨I0, T0⟩ T0 rfl (Yi rfl (Y4 (z := .agg #[.slice none 0 0, .slice none 0 0, .int .i64 0, .slice none 0 0, .slice none 0 0, .int .i64 0]) (k := 3) rfl (by kernel_rfl)) T0 T0 rfl (pM (aC (.int .i64 0)) (kN 21 [(1, .box 27 (cFm p)), (2, .box 29 (Rd.cCg c)), (3, .box 29 [.v (.slice none 0 0), .v (.slice none 0 0), iv 0, .v (.slice none 0 0), .v (.slice none 0 0), iv 0])] [(2, .box 1 0), (3, .box 2 0), (4, .box 3 0), (5, iv 0)] (Zd (Zb (Zb (Za ?_)))))))))))
 refine oB (Zn (Y := .box 27 (cFm p)) (ds := cFm p) (z := 10) (.tmp 2) rfl U27 rfl (by kernel_rfl) (by decide) (by kernel_rfl) (by kernel_rfl)) I0 rfl (oC (Zk (c := .func 22) (xs := #[.tmp 7]) [] (rValidate_c HP) rfl (by kernel_rfl) rfl (Xs := [.agg (cFm p)]) rfl rfl rfl) I0 I0 (pM (aT 8 (iv (valE p))) (kN 21 [(1, .box 27 (cFm p)), (2, .box 29 (Rd.cCg c)), (3, .box 29 [.v (.slice none 0 0), .v (.slice none 0 0), iv 0, .v (.slice none 0 0), .v (.slice none 0 0), iv 0])] [(2, .box 1 0), (3, .box 2 0), (4, .box 3 0), (5, iv 0), (6, iv (valE p))] (Zd (Zb ?_)))))
 by_cases hs1 : valE p = 0
 refine Za (pM (mT 6 (iv (valE p))) (oC (ZM rfl (dT' hs1)) I0 I0 (kN 21 [(1, .box 27 (cFm p)), (2, .box 29 (Rd.cCg c)), (3, .box 29 [.v (.slice none 0 0), .v (.slice none 0 0), iv 0, .v (.slice none 0 0), .v (.slice none 0 0), iv 0])] [(2, .box 1 0), (3, .box 2 0), (4, .box 3 0), (5, iv 0), (6, iv (valE p)), (10, bv false)] (Zd (Zx rfl (Zr (Zd (Zb (Zb (Za (oB (Zn (Y := .box 27 (cFm p)) (ds := cFm p) (z := 10) (.tmp 2) rfl U27 rfl (by kernel_rfl) (by decide) (by kernel_rfl) (by kernel_rfl)) I0 rfl ?_)))))))))))
 refine oB (Zn (Y := .box 29 (Rd.cCg c)) (ds := Rd.cCg c) (z := 6) (.tmp 3) rfl U29 rfl (by kernel_rfl) (by decide) (by kernel_rfl) (by kernel_rfl)) I0 rfl (oD (Zk (c := .func 23) (xs := #[.tmp 13, .tmp 14]) [] (ZS (plain_c HP HC) (hn hs1)) rfl (by kernel_rfl) rfl (Xs := [.agg (cFm p), .agg (Rd.cCg c)]) rfl rfl rfl) I0 I0 I0 (oA (ZD rfl rfl) I0 (kN 21 [(1, .box 27 (cFm p)), (2, .box 29 (Rd.cCg c)), (3, .box 29 [.v (.slice none 0 0), .v (.slice none 0 0), iv 0, .v (.slice none 0 0), .v (.slice none 0 0), iv 0])] [(2, .box 1 0), (3, .box 2 0), (4, .box 3 0), (5, iv 0), (16, bv true)] (Zd (Zy rfl (Zb (Za (Yi rfl (sp_bld [] #[.slice none 0 0, .slice none 0 0, .int .i64 0, .slice none 0 0, .slice none 0 0, .int .i64 0] rfl rfl (by kernel_rfl) rfl) T0 T0 T0 (Yi rfl (ZV (T0 := 29) (X := .agg [.v (.slice none 0 0), .v (.slice none 0 0), iv 0, .v (.slice none 0 0), .v (.slice none 0 0), iv 0]) (cs := [.v (.slice none 0 0), .v (.slice none 0 0), iv 0, .v (.slice none 0 0), .v (.slice none 0 0), iv 0]) (ds := [.v (.slice none 0 0), .v (.slice none 0 0), iv 0, .v (.slice none 0 0), .v (.slice none 0 0), iv 0]) (z := 6) (.tmp 4) (.tmp 17) rfl (by kernel_rfl) (by kernel_rfl) (by kernel_rfl) (of_decide_eq_true (by kernel_rfl)) (by kernel_rfl)) ⟨I0, I0, T0⟩ ⟨rfl, T0⟩ rfl (pM (aC (.int .i64 1)) (Zu ?_)))))))))))
 refine Zd (Zt (Zm ?_))
 refine YW (Ym 3 0 4 true 3 1 rfl rfl rfl rfl) ?_
 refine YW (Ym 3 1 5 true 3 1 rfl rfl rfl rfl) ?_
 refine YW (Ym 3 3 6 true 3 1 rfl rfl rfl rfl) ?_
 refine YW (Ym 3 4 7 true 3 1 rfl rfl rfl rfl) ?_
 refine Y0 Tryz.results11 (.cellS rfl rfl U29 rfl (z := 6) (by kernel_rfl) rfl (by decide)) (.tmp rfl) ?_
 rw [Ct.cnC_n (Ct.ctE_ne fun h => by rw [hn hs1] at h; cases h.2), Ct.ctE_n hs1 (hn hs1)]
 exact rfl
 refine Za (pM (mT 6 (iv (valE p))) (oC (ZM rfl (dF' hs1)) I0 I0 (kN 21 [(1, .box 27 (cFm p)), (2, .box 29 (Rd.cCg c)), (3, .box 29 [.v (.slice none 0 0), .v (.slice none 0 0), iv 0, .v (.slice none 0 0), .v (.slice none 0 0), iv 0])] [(2, .box 1 0), (3, .box 2 0), (4, .box 3 0), (5, iv 0), (6, iv (valE p)), (10, bv true)] (Zd (Zy rfl (Zb (Za (Yi rfl (sp_bld [] #[.slice none 0 0, .slice none 0 0, .int .i64 0, .slice none 0 0, .slice none 0 0, .int .i64 0] rfl rfl (by kernel_rfl) rfl) T0 T0 T0 (pM (mT 6 (iv (valE p))) (Yi rfl (ZV (T0 := 29) (X := .agg [.v (.slice none 0 0), .v (.slice none 0 0), iv 0, .v (.slice none 0 0), .v (.slice none 0 0), iv 0]) (cs := [.v (.slice none 0 0), .v (.slice none 0 0), iv 0, .v (.slice none 0 0), .v (.slice none 0 0), iv 0]) (ds := [.v (.slice none 0 0), .v (.slice none 0 0), iv 0, .v (.slice none 0 0), .v (.slice none 0 0), iv 0]) (z := 6) (.tmp 4) (.tmp 11) rfl (by kernel_rfl) (by kernel_rfl) (by kernel_rfl) (of_decide_eq_true (by kernel_rfl)) (by kernel_rfl)) ⟨I0, I0, T0⟩ ⟨rfl, T0⟩ rfl (pM (aT 12 (iv (valE p))) ?_)))))))))))
 refine Zu (Zd (Zt (Zm ?_)))
 refine YW (Ym 3 0 4 true 3 1 rfl rfl rfl rfl) ?_
 refine YW (Ym 3 1 5 true 3 1 rfl rfl rfl rfl) ?_
 refine YW (Ym 3 3 6 true 3 1 rfl rfl rfl rfl) ?_
 refine YW (Ym 3 4 7 true 3 1 rfl rfl rfl rfl) ?_
 refine Y0 Tryz.results11 (.cellS rfl rfl U29 rfl (z := 6) (by kernel_rfl) rfl (by decide)) (.tmp rfl) ?_
 rw [Ct.cnC_n (Ct.ctE_ne fun h => hs1 h.1), Ct.ctE_v hs1]
 exact rfl
theorem rCanonical_c {p : Fm} (HP : FmOk p) (lS : p.states.length ≤ 60) {c : Cf} (HC : Rd.CgOk c) : Ctr Tryz.prog J 11 [.agg (cFm p), .agg (Rd.cCg c)] (.tup [.agg (Rd.cCg (Ct.cnC p c)), iv (Ct.ctE p c)]) := by
  by_cases hv : valE p = 0
  · by_cases hp : Ct.plB p c = true
    · obtain ⟨sh, A, B, se, fa, val, rfl⟩ := Ct.pl_two hp
      exact rCanonical_ok HP lS HC hv (Ct.two_pl.symm.trans hp)
    exact rCanonical_err HP HC fun _ => by simpa using hp
  exact rCanonical_err HP HC fun h => absurd h hv
end Go.Proofs.YtgbgfkhkjlakbaaGreat

namespace Go.Proofs.YtgbgfkhkjlakbaaGreat
open Go.RowKit Go.Deep Go.ChangeShapes Go.WideShapes Go.ChangeAt Go.Joins
theorem Kq : Tryz.prog.cellsOf 3 = 1 := by kernel_rfl
theorem zcells_ints : Tryz.prog.cellsOf 24 = 1 := by kernel_rfl
set_option maxRecDepth 100000 in
theorem zint_of_trod {H : Type} {enc : TypeId × Value → H} {w : World} {base : Nat} {sp : Nat → Bool} {held : Bool} {n : Nat} {v : Value} {x : DataW H × List MemPlace} (h : DataW.trod enc Tryz.prog w base sp held n 3 [v] = some x) : ∃ c, v = .int .i64 c ∧ I64 c := by
  obtain ⟨c, e1, _, e3⟩ := DataW.trod_int Tryz.underlying3 h
  simp at e1
  exact ⟨c, e1, I64.of_wf e3⟩
end Go.Proofs.YtgbgfkhkjlakbaaGreat

namespace Go.Proofs.YtgbgfkhkjlakbaaGreat
open Go.RowKit Go.Deep Go.ChangeShapes Go.WideShapes Go.ChangeAt Go.Joins
theorem cells_cfg : Tryz.prog.cellsOf 29 = 6 := by kernel_rfl
set_option maxRecDepth 100000 in
theorem cfg_of_trod {H : Type} {enc : TypeId × Value → H} {w : World} {base : Nat} {sp : Nat → Bool} {held : Bool} {n : Nat} {cs : List Value} {x : DataW H × List MemPlace} (h : DataW.trod enc Tryz.prog w base sp held n 29 cs = some x) :
    ∃ u0 xs0 u1 xs1 c2 u3 xs3 u4 xs4 c5, cs = [u0, u1, .int .i64 c2, u3, u4, .int .i64 c5] ∧ IsInts 0 w u0 xs0 ∧ IsInts 0 w u1 xs1 ∧ I64 c2 ∧ IsInts 0 w u3 xs3 ∧ IsInts 0 w u4 xs4 ∧ I64 c5 := by
  obtain ⟨ys, m, _, _, hlen, _, hf⟩ := DataW.trod_struct Tryz.underlying29 h
  rw [cells_cfg] at hlen
  match cs, hlen with
  | [v0, v1, v2, v3, v4, v5], _ =>
    have h0 : DataW.trod enc Tryz.prog w base sp held m 24 (([v0, v1, v2, v3, v4, v5].drop 0).take (Tryz.prog.cellsOf 24)) = ys[0]? := hf 0 _ rfl
    rw [zcells_ints] at h0
    simp only [List.drop_zero, List.take_succ_cons, List.take_zero] at h0
    have h1 : DataW.trod enc Tryz.prog w base sp held m 24 (([v0, v1, v2, v3, v4, v5].drop 1).take (Tryz.prog.cellsOf 24)) = ys[1]? := hf 1 _ rfl
    rw [zcells_ints] at h1
    simp only [List.drop_succ_cons, List.drop_zero, List.take_succ_cons, List.take_zero] at h1
    have h2 : DataW.trod enc Tryz.prog w base sp held m 3 (([v0, v1, v2, v3, v4, v5].drop 2).take (Tryz.prog.cellsOf 3)) = ys[2]? := hf 2 _ rfl
    rw [Kq] at h2
    simp only [List.drop_succ_cons, List.drop_zero, List.take_succ_cons, List.take_zero] at h2
    have h3 : DataW.trod enc Tryz.prog w base sp held m 24 (([v0, v1, v2, v3, v4, v5].drop 3).take (Tryz.prog.cellsOf 24)) = ys[3]? := hf 3 _ rfl
    rw [zcells_ints] at h3
    simp only [List.drop_succ_cons, List.drop_zero, List.take_succ_cons, List.take_zero] at h3
    have h4 : DataW.trod enc Tryz.prog w base sp held m 24 (([v0, v1, v2, v3, v4, v5].drop 4).take (Tryz.prog.cellsOf 24)) = ys[4]? := hf 4 _ rfl
    rw [zcells_ints] at h4
    simp only [List.drop_succ_cons, List.drop_zero, List.take_succ_cons, List.take_zero] at h4
    have h5 : DataW.trod enc Tryz.prog w base sp held m 3 (([v0, v1, v2, v3, v4, v5].drop 5).take (Tryz.prog.cellsOf 3)) = ys[5]? := hf 5 _ rfl
    rw [Kq] at h5
    simp only [List.drop_succ_cons, List.drop_zero, List.take_succ_cons, List.take_zero] at h5
    have hx : ∀ i, i < 6 → ∃ y, ys[i]? = some y := fun i hi => ⟨ys[i]'(by simp at *; omega), List.getElem?_eq_getElem _⟩
    obtain ⟨y0, e0⟩ := hx 0 (by omega)
    rw [e0] at h0
    obtain ⟨xs0, q0⟩ := Ye Tryz.underlying24 Tryz.underlying3 Kq h0
    obtain ⟨y1, e1⟩ := hx 1 (by omega)
    rw [e1] at h1
    obtain ⟨xs1, q1⟩ := Ye Tryz.underlying24 Tryz.underlying3 Kq h1
    obtain ⟨y2, e2⟩ := hx 2 (by omega)
    rw [e2] at h2
    obtain ⟨c2, rfl, q2⟩ := zint_of_trod h2
    obtain ⟨y3, e3⟩ := hx 3 (by omega)
    rw [e3] at h3
    obtain ⟨xs3, q3⟩ := Ye Tryz.underlying24 Tryz.underlying3 Kq h3
    obtain ⟨y4, e4⟩ := hx 4 (by omega)
    rw [e4] at h4
    obtain ⟨xs4, q4⟩ := Ye Tryz.underlying24 Tryz.underlying3 Kq h4
    obtain ⟨y5, e5⟩ := hx 5 (by omega)
    rw [e5] at h5
    obtain ⟨c5, rfl, q5⟩ := zint_of_trod h5
    exact ⟨v0, xs0, v1, xs1, c2, v3, xs3, v4, xs4, c5, rfl, q0, q1, q2, q3, q4, q5⟩
set_option maxRecDepth 100000 in
theorem arg_cfg {H : Type} {enc : TypeId × Value → H} {w : World} {r : Reach} {b0 : Nat} {v : Value} {d : DataW H} {p : List MemPlace} (hv : Value.okWide Tryz.prog w r b0 29 v) (h : DataW.Trod enc Tryz.prog w 0 (fun _ => true) true 29 v d p) :
    ∃ u0 xs0 u1 xs1 c2 u3 xs3 u4 xs4 c5, v = .agg #[u0, u1, .int .i64 c2, u3, u4, .int .i64 c5] ∧ IsInts 0 w u0 xs0 ∧ IsInts 0 w u1 xs1 ∧ I64 c2 ∧ IsInts 0 w u3 xs3 ∧ IsInts 0 w u4 xs4 ∧ I64 c5 := by
  obtain ⟨cs, rfl, _⟩ := okWide_struct Tryz.underlying29 hv
  obtain ⟨fuel, hf⟩ := h
  obtain ⟨u0, xs0, u1, xs1, c2, u3, xs3, u4, xs4, c5, e, q⟩ := cfg_of_trod hf
  have e2 : cs = #[u0, u1, .int .i64 c2, u3, u4, .int .i64 c5] := by obtain ⟨l⟩ := cs; simp [Value.cells] at e; simpa using e
  exact ⟨u0, xs0, u1, xs1, c2, u3, xs3, u4, xs4, c5, by rw [e2], q⟩
end Go.Proofs.YtgbgfkhkjlakbaaGreat

namespace Go.Proofs.YtgbgfkhkjlakbaaGreat
open Go.RowKit Go.Deep Go.ChangeShapes Go.WideShapes Go.ChangeAt Go.Joins
end Go.Proofs.YtgbgfkhkjlakbaaGreat

namespace Go.Proofs.YtgbgfkhkjlakbaaGreat
open Go.RowKit Go.Deep
def wideCf (q : Cf) : Bool := decide (100 < q.sh.length) || decide (100 < q.st.length) || decide (100 < q.se.length) || decide (100 < q.fa.length)
set_option maxHeartbeats 800000 in
theorem Wide_any {lo : Nat} {w : World} {v : Value} {q : Cf} (h : IsCf lo w v q) :
    Calls Tryz.prog 6 #[v] w fun e w' => e = .returned (.bool (wideCf q)) ∧ Below w.heap.size w w' := by
  obtain ⟨u0, u1, u3, u4, rfl, h0, h1, _, h3, h4, _⟩ := h
  have E : Hid (wideCf q = (decide (100 < q.sh.length) || decide (100 < q.st.length) || decide (100 < q.se.length) || decide (100 < q.fa.length))) := (rfl : wideCf q = _)
  have l0 : q.sh.length ≤ 9223372036854775807 := by obtain ⟨_, _, _, hh, hm, _⟩ := h0; unfold maxLen at hm; omega
  obtain ⟨a0, c0, rfl⟩ := h0.shape
  have l1 : q.st.length ≤ 9223372036854775807 := by obtain ⟨_, _, _, hh, hm, _⟩ := h1; unfold maxLen at hm; omega
  obtain ⟨a1, c1, rfl⟩ := h1.shape
  have l3 : q.se.length ≤ 9223372036854775807 := by obtain ⟨_, _, _, hh, hm, _⟩ := h3; unfold maxLen at hm; omega
  obtain ⟨a3, c3, rfl⟩ := h3.shape
  have l4 : q.fa.length ≤ 9223372036854775807 := by obtain ⟨_, _, _, hh, hm, _⟩ := h4; unfold maxLen at hm; omega
  obtain ⟨a4, c4, rfl⟩ := h4.shape
  clear h0 h1 h3 h4
  by_cases t0 : 100 < q.sh.length
  · have i0 : (100 : Int) < ((q.sh.length : Nat) : Int) := by omega
    go_enter Tryz.func6, Tryz.ntmps6
    go_wp2_with fail
    go_ret
    exact ⟨Zf (by rw [E.out, decide_eq_true t0]; simp), Zc _ _⟩
  have i0 : ¬ (100 : Int) < ((q.sh.length : Nat) : Int) := by omega
  by_cases t1 : 100 < q.st.length
  · have i1 : (100 : Int) < ((q.st.length : Nat) : Int) := by omega
    go_enter Tryz.func6, Tryz.ntmps6
    go_wp2_with fail
    go_ret
    exact ⟨Zf (by rw [E.out, decide_eq_true t1]; simp), Zc _ _⟩
  have i1 : ¬ (100 : Int) < ((q.st.length : Nat) : Int) := by omega
  by_cases t3 : 100 < q.se.length
  · have i3 : (100 : Int) < ((q.se.length : Nat) : Int) := by omega
    go_enter Tryz.func6, Tryz.ntmps6
    go_wp2_with fail
    go_ret
    exact ⟨Zf (by rw [E.out, decide_eq_true t3]; simp), Zc _ _⟩
  have i3 : ¬ (100 : Int) < ((q.se.length : Nat) : Int) := by omega
  by_cases t4 : 100 < q.fa.length
  · have i4 : (100 : Int) < ((q.fa.length : Nat) : Int) := by omega
    go_enter Tryz.func6, Tryz.ntmps6
    go_wp2_with fail
    go_ret
    exact ⟨Zf (by rw [E.out, decide_eq_true t4]; simp), Zc _ _⟩
  have i4 : ¬ (100 : Int) < ((q.fa.length : Nat) : Int) := by omega
  go_enter Tryz.func6, Tryz.ntmps6
  go_wp2_with fail
  go_ret
  exact ⟨Zf (by rw [E.out, decide_eq_false t0, decide_eq_false t1, decide_eq_false t3, decide_eq_false t4]; simp), Zc _ _⟩
end Go.Proofs.YtgbgfkhkjlakbaaGreat
