import Derived.WalkSpells
import Derived.WalkLawsBesides
import Derived.Laws.MakeOwn
import Derived.Test.YtgbgfkhkjlakbaaGrpoajdpdmf
import Derived.Test.YtgbgfkhkjlakbaaGrpbabialhn
import Derived.Test.YtgbgfkhkjlakbaaGrpenoecfme
import Derived.Test.YtgbgfkhkjlakbaaGrpololmmkd
import Derived.Test.YtgbgfkhkjlakbaaGrpdonmgaga
import Derived.Test.YtgbgfkhkjlakbaaGrpmocoaepn
import Derived.Test.YtgbgfkhkjlakbaaGrpeaellnef
set_option linter.all false
namespace Go.Proofs.Ytgbgfkhkjlakbaa
open Go.RowKit Go.Deep
theorem OwnV.blk {lo : Nat} {w : World} {v : Value} {xs : List Int} (h : OwnV lo w v xs) {g : Nat} (hg : v.ownBlock = some g) : lo ≤ g ∧ g < w.heap.size := by
  rcases h with ⟨rfl, _⟩ | ⟨g', cap, rfl, _, _, h⟩
  · cases hg
  · have : g' = g := by simpa [Value.ownBlock] using hg
    subst this
    exact ⟨h.1, h.lt⟩
theorem OwnV.grw {lo : Nat} {w w' : World} {v : Value} {xs : List Int} {r : Option Nat} (h : OwnV lo w v xs) (hg : w.grownBy w' r) (hr : ∀ g, r = some g → v.ownBlock ≠ some g) : OwnV lo w' v xs := by
  rcases h with h | ⟨g', cap, rfl, h1, h2, h⟩
  · exact .inl h
  · exact .inr ⟨g', cap, rfl, h1, h2, h.but (hg.block g' h.lt (fun e => hr g' e.symm rfl))⟩
theorem OwnV.setOut {lo : Nat} {w : World} {v : Value} {xs : List Int} (h : OwnV lo w v xs) (a : Addr) (ha : a.block < lo) (u : Value) : OwnV lo (w.setCell a u) v xs := by
  rcases h with h | ⟨g', cap, rfl, h1, h2, h⟩
  · exact .inl h
  · exact .inr ⟨g', cap, rfl, h1, h2, h.setOther _ _ (by have := h.1; omega)⟩
theorem row_under {w w' : World} {B e size n : Nat} {v : Value} {xs : List Value} (h : w.ownsRow B e size v n xs) (hb : Below w.heap.size w w') : w'.ownsRow B e size v n xs := by
  obtain ⟨h1, h2⟩ := h
  refine ⟨h1, ?_⟩
  rcases h2 with h2 | ⟨g, cap, cur, hv, hg, hh, r⟩
  · exact .inl h2
  · exact .inr ⟨g, cap, cur, hv, hg, by rw [hb.block g (Array.getElem?_eq_some_iff.1 hh).1]; exact hh, r⟩

def OwnLL (lo : Nat) (w : World) (u : Value) (ps : List (Value × List Int)) : Prop :=
  w.ownsRow lo 24 1 u ps.length (ps.map (·.1)) ∧ ∀ p ∈ ps, OwnV lo w p.1 p.2 ∧ ∀ g, u.ownBlock = some g → p.1.ownBlock ≠ some g
theorem OwnLL.nil (lo : Nat) (w : World) : OwnLL lo w (.slice none 0 0) [] := ⟨World.ownsRow_nil _ _ _ _, by simp⟩
theorem OwnLL.setOut {lo : Nat} {w : World} {u : Value} {ps : List (Value × List Int)} (h : OwnLL lo w u ps) (a : Addr) (ha : a.block < lo) (x : Value) : OwnLL lo (w.setCell a x) u ps :=
  ⟨ownsRow_setCell_below h.1 ha _, fun p hp => ⟨(h.2 p hp).1.setOut a ha _, (h.2 p hp).2⟩⟩
theorem OwnLL.below {lo : Nat} {w w' : World} {u : Value} {ps : List (Value × List Int)} (h : OwnLL lo w u ps) (hb : Below w.heap.size w w') : OwnLL lo w' u ps :=
  ⟨row_under h.1 hb, fun p hp => ⟨(h.2 p hp).1.below hb, (h.2 p hp).2⟩⟩
theorem OwnLL.shape {lo : Nat} {w : World} {u : Value} {ps : List (Value × List Int)} (h : OwnLL lo w u ps) : ∃ a c, u = .slice a ps.length c := rows_shape h.1
/-- One more row: the world W has the row, w3 is W behind the append. -/
theorem OwnLL.snoc {lo : Nat} {wr W w3 : World} {u v' : Value} {ps : List (Value × List Int)} {xs : List Int} {g cap : Nat} (h : OwnLL lo wr u ps) (hb : Below wr.heap.size wr W) (hv : OwnV wr.heap.size W v' xs) (hlo : lo ≤ wr.heap.size)
    (hown : w3.ownsRow lo 24 1 (.slice (some ⟨g, 0, none⟩) (ps.length + 1) cap) (ps.length + 1) (ps.map (·.1) ++ [v'])) (hgrow : W.grownBy w3 u.ownBlock) (hat : u.ownBlock = some g ∨ W.heap.size < g) :
    OwnLL lo w3 (.slice (some ⟨g, 0, none⟩) (ps.length + 1) cap) (ps ++ [(v', xs)]) := by
  refine ⟨by simpa using hown, fun p hp => ?_⟩
  have hu : ∀ g, u.ownBlock = some g → g < wr.heap.size := fun g hg => (h.1.lt _ hg).2
  have hO : OwnV lo W p.1 p.2 ∧ ∀ g, u.ownBlock = some g → p.1.ownBlock ≠ some g := by
    rcases List.mem_append.1 hp with hp | hp
    · exact ⟨(h.2 p hp).1.below hb, (h.2 p hp).2⟩
    · obtain rfl : p = (v', xs) := by simpa using hp
      exact ⟨hv.mono hlo, fun g hg e => by have := hu g hg; have := hv.blk e; omega⟩
  refine ⟨hO.1.grw hgrow hO.2, fun g' hg' e => ?_⟩
  have : g = g' := by simpa [Value.ownBlock] using hg'
  subst this
  rcases hat with hat | hat
  · exact hO.2 _ hat e
  · have := (hO.1.blk e).2; omega
/-- A slice of slices of integers, by its elements. -/
def IntsEl (lo : Nat) (w : World) (cs : List Value) (xs : List Int) : Prop := ∃ v, cs = [v] ∧ IsInts lo w v xs
theorem IntsEl.stays : Stays IntsEl := fun _ _ _ _ _ ⟨v, e, h⟩ hb => ⟨v, e, h.below hb⟩
theorem IntsEl.mono : Mono IntsEl := fun _ _ _ _ _ ⟨v, e, h⟩ hl => ⟨v, e, h.mono hl⟩
theorem OwnLL.reads {lo : Nat} {w : World} {u : Value} {ps : List (Value × List Int)} (h : OwnLL lo w u ps) : IsSl 1 IntsEl lo w u (ps.map (·.2)) := by
  obtain ⟨⟨hl, h1⟩, h2⟩ := h
  rcases h1 with ⟨rfl, h0⟩ | ⟨g, cap, cur, rfl, hb, hg, hnc, hcm, hcs, htake⟩
  · have : ps = [] := List.eq_nil_of_length_eq_zero h0
    subst this
    exact ⟨none, 0, rfl, by simp, by simp [maxLen], by simp, .inl rfl⟩
  · refine ⟨some ⟨g, 0, none⟩, cap, by simp, by simpa using hnc, hcm, (fun e => by cases e), .inr ⟨g, 0, rfl, hb, (Array.getElem?_eq_some_iff.1 hg).1, fun i hi => ?_⟩⟩
    have hi' : i < ps.length := by simpa using hi
    refine ⟨[(ps[i]'hi').1], rfl, fun j hj => ?_, (ps[i]'hi').1, rfl, by simpa using (h2 _ (List.getElem_mem hi')).1.ints⟩
    obtain rfl : j = 0 := by omega
    have : (ps.map (·.1))[i]? = some (ps[i]'hi').1 := by simp [hi']
    rw [← htake, List.getElem?_take_of_lt (by omega)] at this
    simp only [World.cell?, hg]
    simpa using this
end Go.Proofs.Ytgbgfkhkjlakbaa

namespace Go.Proofs.Ytgbgfkhkjlakbaa
open Go.RowKit Go.Deep
set_option maxHeartbeats 800000 in
theorem Clone_any {lo : Nat} {w : World} {v : Value} {xs : List Int} (h : IsInts lo w v xs) (hn : xs.length ≤ 1000) :
    Calls Try.prog 32 #[v] w fun e w' => ∃ v', e = .returned v' ∧ OwnV w.heap.size w' v' xs ∧ Below w.heap.size w w' := by
  have H := h
  obtain ⟨a, cap, rfl, hl, hm, hi, hc⟩ := h
  obtain ⟨i0, hi0, hz0, hz1, hz2⟩ := info_int4
  have HI := hid0 hi.1
  cases a with
  | none =>
    obtain rfl : cap = 0 := hi.2 rfl
    have h0 : xs.length = 0 := by omega
    obtain rfl : xs = [] := List.eq_nil_of_length_eq_zero h0
    clear hc hi hl hm h0 H
    have q22 : ∀ (w : World) (a : Option Addr) (n c n' c' : Nat), (binOp .eql 24 (.slice a n c) (.slice none n' c')).run Try.prog w = .ok (.bool a.isNone) w := fun w a n c n' c' => Lib.run_eql_slice_nil w _ _ a n c n' c' Try.underlying24
    go_enter Try.func32, Try.ntmps32
    go_wp2_with fail
    go_ret
    exact ⟨_, rfl, .inl ⟨rfl, rfl⟩, Below.refl _ _⟩
  | some ad =>
    have HS : Hid (∀ w', Below w.heap.size w w' → ∀ j u, (xs.map (Value.int .i64))[j]? = some u → w'.cell? (ad.add j) = some u) := hid0 fun w' hb j u hj => by
      have h0 : 0 < xs.length := by have := (List.getElem?_eq_some_iff.1 hj).1; simp at this; omega
      obtain ⟨ad', e, hS⟩ := H.src h0
      cases e
      exact hS w' hb j u hj
    have hown := World.ownsRow_lit (base := w.heap.size) (e := 3) (size := 1) w #[] 0 (Nat.le_refl _) (by simp) (by simp)
    have HO := hid0 hown
    clear hown hc hi
    have q22 : ∀ (w : World) (a : Option Addr) (n c n' c' : Nat), (binOp .eql 24 (.slice a n c) (.slice none n' c')).run Try.prog w = .ok (.bool a.isNone) w := fun w a n c n' c' => Lib.run_eql_slice_nil w _ _ a n c n' c' Try.underlying24
    go_enter Try.func32, Try.ntmps32
    go_wp2_with (refine wpList_append_own _ rfl (.tmp 5) (.tmp 6) 24 rfl w.heap.size 3 i0 (.int .i64 0) 1 8 Try.underlying24 hi0 hz0 hz1 hz2 rfl (by decide) _ _ _ rfl HO.out ad xs.length cap (xs.map (Value.int .i64)) rfl (by simp) (HS.out _ (by go_grown)) (by simp [Value.oneCell']) (by unfold maxLen; omega) (by omega) (by simp) ?_; intro v' w1 hown1 hgrow1 _)
    go_ret
    have hown2 : w1.ownsRow w.heap.size 3 1 v' xs.length (xs.map (Value.int .i64)) := by simpa using hown1
    refine ⟨v', rfl, own_of_row hown2 HI.out, (allocBelow w _).grown hgrow1 (by simp) fun k hk => ?_⟩
    have hk' : some w.heap.size = some k := hk
    injection hk' with hk'
    omega
end Go.Proofs.Ytgbgfkhkjlakbaa

namespace Go.Proofs.Ytgbgfkhkjlakbaa
open Go.RowKit Go.Deep
theorem info_int : (Try.prog.info? 3).map (fun i => (i.zero, i.size, i.bytes)) = some (some (.int .i64 0), 1, 8) := by kernel_rfl
theorem elInts : ElT Try.prog 34 24 (.slice none 0 0) 1 24 := ⟨Try.underlying34, by kernel_rfl, rfl, by decide⟩
theorem and_one : ∀ m, m < 256 → bits BinOp.and IntKind.i64 (m : Nat) 1 = ((m % 2 : Nat) : Int) := by decide +kernel
theorem own_ints {lo : Nat} {w : World} {g n : Nat} {f : Nat → Int} {xs : List Int} (h : OwnF lo w g n f) (hl : xs.length = n) (hn : n ≤ 1000) (hx : ∀ x ∈ xs, I64 x) (hf : ∀ j, j < n → f j = xs.getD j 0) : IsInts lo w (.slice (some ⟨g, 0, none⟩) n n) xs := by
  obtain ⟨h1, cur, t, hg, hc⟩ := h
  exact ints_of_block hg h1 hl (Nat.le_refl _) (by unfold maxLen; omega) hx (fun i hi => by rw [hc i hi, hf i hi])
theorem dig_small (n k : Nat) : ∀ x ∈ dig n k, I64 x := by
  intro x hx
  obtain ⟨j, _, rfl⟩ := List.mem_map.1 hx
  have := digF_small n k j
  constructor <;> omega
set_option maxHeartbeats 1600000 in
theorem Shapes_ok (n : Nat) (h0 : 1 ≤ n) (h1 : n ≤ 8) (w : World) :
    Calls Try.prog 11 #[.int .i64 n] w fun e w' => ∃ u, e = .returned (.tuple #[u, .int .i64 0]) ∧ IsSl 1 IntsEl w.heap.size w' u (shL n) ∧ Below w.heap.size w w' := by
  have hmk := make_n (P := Try.prog) 24 3 _ 1 8 Try.underlying24 info_int n (by omega) (by omega)
  obtain ⟨M, hM⟩ : ∃ M : Nat, M = 2 ^ n := ⟨_, rfl⟩
  have hM2 : M ≤ 256 := by rw [hM]; exact Nat.pow_le_pow_right (by omega) h1
  have hw : wrap64 ((2 : Int) ^ n) = (M : Int) := by
    have e : ((2 : Int) ^ n) = (M : Int) := by rw [hM]; simp
    rw [e]; unfold wrap64; omega
  have HM := Lib.hid hM
  clear hM
  go_enter Try.func11, Try.ntmps11
  go_wp2_with fail
  rw [hw]
  clear hw hmk
  obtain ⟨W, hW⟩ : ∃ W : World, W = w.alloc (.cells (madeCells #[Value.int IntKind.i64 0] n) 3) := ⟨_, rfl⟩
  rw [← hW]
  have HO0 := Lib.hid (show OwnF w.heap.size W w.heap.size n (fun _ => 0) by
    rw [hW]; exact ⟨Nat.le_refl _, _, _, heap_alloc_new _ _, fun j hj => made_get _ _ _ _ hj (by simp [Nat.mod_one])⟩)
  have HB0 := Lib.hid (show Below w.heap.size w W by rw [hW]; exact allocBelow _ _)
  clear hW
  go_loopw [4, 18] (fun v u wr => ∃ (k : Nat) (a : Option Addr) (c : Nat) (ps : List (Value × List Int)) (f : Nat → Int), k ≤ M ∧ u = .int .i64 k ∧ v = .slice a ps.length c ∧ ps.map (·.2) = shK n k ∧ OwnLL (w.heap.size + 1) wr (.slice a ps.length c) ps ∧ OwnF w.heap.size wr w.heap.size n f ∧ Below w.heap.size w wr) (fun _ u _ => M - (intOf u).toNat)
  case atStart => exact ⟨0, none, 0, [], fun _ => 0, Nat.zero_le _, rfl, rfl, rfl, OwnLL.nil _ _, HO0.out, HB0.out⟩
  case round =>
    obtain ⟨k, a, c, ps, f, hk, rfl, rfl, hps, hL, hF, hB⟩ := hrel
    have HPS := Lib.hid hps
    have HL := Lib.hid hL
    have HF := Lib.hid hF
    have HB := Lib.hid hB
    have hpl : ps.length ≤ k := by have := congrArg List.length hps; simp at this; have := shK_len n k; omega
    clear hps hL hF hB
    by_cases hlt : k < M
    · go_wp2_with fail
      go_loopw [23] (fun u w2 => ∃ (i : Nat) (f : Nat → Int), i ≤ n ∧ u = .int .i64 i ∧ (∀ j, j < i → f j = digF n k j) ∧ OwnLL (w.heap.size + 1) w2 (.slice a ps.length c) ps ∧ OwnF w.heap.size w2 w.heap.size n f ∧ Below w.heap.size w w2) (fun u _ => n - (intOf u).toNat)
      case atStart => exact ⟨0, f, Nat.zero_le _, rfl, fun _ h => by omega, HL.out, HF.out, HB.out⟩
      case round =>
        obtain ⟨i, f', hi, rfl, hd, hL2, hF2, hB2⟩ := hrel
        have HD := Lib.hid hd
        have HL2 := Lib.hid hL2
        have HF2 := Lib.hid hF2
        have HB2 := Lib.hid hB2
        have hgw := hF2.lt
        clear hd hL2 hB2
        by_cases hlt2 : i < n
        · have c1 := hF2.cell i hlt2
          have c2 := hF2.frozen i
          have HE := Lib.hid (show wrap64 (bits BinOp.and IntKind.i64 ((k : Int) / 2 ^ (n - 1 - i)) 1 * 2) = digF n k i by
            have e1 : ((k : Int) / 2 ^ (n - 1 - i)) = ((k / 2 ^ (n - 1 - i) : Nat) : Int) := by simp
            have e2 : k / 2 ^ (n - 1 - i) < 256 := by have := Nat.div_le_self k (2 ^ (n - 1 - i)); omega
            rw [e1, and_one _ e2]
            unfold digF wrap64; omega)
          clear hF2
          go_wp2_with fail
          go_roundw
          case rel =>
            refine ⟨i + 1, up f' i (digF n k i), by omega, by go_num, fun j hj => ?_, HL2.out.setOut _ (by simp) _, ?_, HB2.out.setCell (by simp) _⟩
            · by_cases e : j = i
              · subst e; exact up_same _ _ _
              · rw [up_ne _ _ e]; exact HD.out j (by omega)
            · rw [← HE.out]; exact HF2.out.set i _
          case measure => simp [intOf]; omega
        · obtain rfl : i = n := by omega
          have HI := Lib.hid (own_ints HF2.out (dig_length i k) (by omega) (dig_small i k) (fun j hj => by rw [HD.out j hj, dig_get _ _ _ hj]))
          clear hF2 hlt2
          have HS0 := Lib.hid (shK_succ i k)
          cases hs : isShp (dig i k) i with
          | false =>
            have HS : Hid (shK i (k + 1) = shK i k) := by
              show _ = _
              have h : shp (dig i k) = false := by unfold isShp at hs; simpa [dig_length] using hs
              rw [HS0.out, h]; rfl
            go_wp2_with (go_at_call 31; refine (isShape_any (i : Int) HI.out (by rw [dig_length]; omega)).mono ?_; rintro e w1 ⟨rfl, rfl⟩)
            go_roundw
            case rel => exact ⟨k + 1, a, c, ps, f', by omega, by go_num, rfl, by rw [HS.out]; exact HPS.out, HL2.out, HF2.out, HB2.out⟩
            case measure => simp [intOf]; omega
          | true =>
            have HS : Hid (shK i (k + 1) = shK i k ++ [dig i k]) := by
              show _ = _
              have h : shp (dig i k) = true := by unfold isShp at hs; simpa [dig_length] using hs
              rw [HS0.out, h]; rfl
            go_wp2_with (first | (go_at_call 31; refine (isShape_any (i : Int) HI.out (by rw [dig_length]; omega)).mono ?_; rintro e w1 ⟨rfl, rfl⟩) | (go_at_call 32; refine (Clone_any HI.out (by rw [dig_length]; omega)).mono ?_; rintro e w3 ⟨v', rfl, hv, hb⟩; have HV := Lib.hid hv; have HB3 := Lib.hid hb; have hs3 := hb.size; obtain ⟨av, cv, rfl⟩ := hv.shape; clear hv hb) | (at_builtin; refine append_one elInts (by rfl) (.tmp 41) (.tmp 44) (by rfl) (w.heap.size + 1) _ ps.length _ [.slice av (dig i k).length cv] w3.heap.size (by rfl) (by rfl) (by rfl) (HL2.out.below HB3.out).1 (by rfl) (by intro u hu; simp at hu; subst hu; rfl) (by omega) (by unfold maxLen; omega) (by omega) (by rfl) ?_; intro g cap w4 hown hgrow hat hlo hlt hsz))
            go_roundw
            case rel =>
              refine ⟨k + 1, some ⟨g, 0, none⟩, cap, ps ++ [(.slice av (dig i k).length cv, dig i k)], f', by omega, by go_num, by simp, ?_, ?_, ?_, ?_⟩
              · rw [HS.out, List.map_append, HPS.out]; rfl
              · rw [List.length_append]; exact OwnLL.snoc HL2.out HB3.out HV.out (by omega) hown hgrow hat
              · exact (HF2.out.below HB3.out).grown hgrow (fun e => by have := ((HL2.out.below HB3.out).1.lt _ e).1; omega)
              · exact (thenBelow HB2.out HB3.out).grown hgrow (by omega) (fun j hj => by have := ((HL2.out.below HB3.out).1.lt _ hj).1; omega)
            case measure => simp [intOf]; omega
    · obtain rfl : k = M := by omega
      go_wp2_with fail
      go_ret2
      refine ⟨_, rfl, ?_, HB.out⟩
      have := HL.out.reads
      rw [HPS.out, HM.out] at this
      exact this.mono IntsEl.mono (by omega)
end Go.Proofs.Ytgbgfkhkjlakbaa

namespace Go.Proofs.Ytgbgfkhkjlakbaa
open Go.RowKit Go.Deep
end Go.Proofs.Ytgbgfkhkjlakbaa

namespace Go.Proofs.Ytgbgfkhkjlakbaa
open Go.RowKit Go.Deep
set_option maxHeartbeats 800000 in
theorem Shapes_bad (n : Int) (h : n < 1 ∨ 8 < n) (w : World) :
    Calls Try.prog 11 #[.int .i64 n] w fun e w' => e = .returned (.tuple #[.slice none 0 0, .int .i64 1]) ∧ w = w' := by
  by_cases h1 : n < 1
  · go_enter Try.func11, Try.ntmps11
    go_wp2_with fail
    go_ret2
    exact ⟨rfl, rfl⟩
  · have h2 : 8 < n := by omega
    go_enter Try.func11, Try.ntmps11
    go_wp2_with fail
    go_ret2
    exact ⟨rfl, rfl⟩
theorem shL_five : shL 5 = [[2, 0, 2, 0, 0], [2, 2, 0, 0, 0]] := by decide +kernel
theorem nbr_known (w : World) : Calls Try.prog 26 #[.int .i64 3, .slice none 0 0, .int .i64 2, .int .i64 0] w fun e w' => e = .returned (.tuple #[.int .i64 1, .int .i64 1, .int .i64 (-1)]) ∧ Below w.heap.size w w' := by
  have h := Neighbors_any (lo := 0) (w := w) (v := .slice none 0 0) (xs := []) 3 2 0 ⟨none, 0, rfl, by simp, by simp [maxLen], by simp, .inl rfl⟩ (by simp) (by omega)
  have e : nbr 3 [] 2 0 = (1, 1, -1) := by decide
  rw [e] at h
  exact h
theorem shapes_known (w : World) : Calls Try.prog 11 #[.int .i64 5] w fun e w' => ∃ u, e = .returned (.tuple #[u, .int .i64 0]) ∧ IsSl 1 IntsEl w.heap.size w' u [[2, 0, 2, 0, 0], [2, 2, 0, 0, 0]] ∧ Below w.heap.size w w' := by
  have h := Shapes_ok 5 (by omega) (by omega) w
  rw [shL_five] at h
  exact h
theorem lit5 {w : World} {g : Nat} {t : TypeId} (h : w.heap[g]? = some (.cells #[.int .i64 2, .int .i64 0, .int .i64 2, .int .i64 0, .int .i64 0] t (0, 0))) : IsInts 0 w (.slice (some ⟨g, 0, none⟩) 5 5) [2, 0, 2, 0, 0] :=
  ints_of_block (xs := [2, 0, 2, 0, 0]) h (Nat.zero_le _) rfl (Nat.le_refl _) (by simp [maxLen]) (fun x hx => by have : x = 0 ∨ x = 2 := (by simp at hx; omega); constructor <;> omega)
    fun i hi => match i, hi with
      | 0, _ => rfl
      | 1, _ => rfl
      | 2, _ => rfl
      | 3, _ => rfl
      | 4, _ => rfl
set_option maxHeartbeats 1600000 in
theorem zknown_any (w : World) : Calls Try.prog 8 #[] w fun e w' => e = .returned (.bool true) ∧ Below w.heap.size w w' := by
  go_enter Try.func8, Try.ntmps8
  go_wp2_with (first | (go_at_call 26; refine (nbr_known _).mono ?_; rintro e w1 ⟨rfl, hb1⟩; have HB1 := Lib.hid hb1; clear hb1) | (go_at_call 11; refine (shapes_known _).mono ?_; rintro e w2 ⟨u, rfl, hu, hb2⟩; obtain ⟨au, cu, rfl⟩ := hu.shape; obtain ⟨b, off, cs, rfl, hlb, hbw, _, hcell, v0, rfl, hv0⟩ := hu.at 0 (by simp); obtain ⟨a0, c0, rfl⟩ := hv0.shape; have g0 := hcell 0 (by omega); have HB2 := Lib.hid (thenBelow HB1.out hb2); have HV := Lib.hid hv0; simp only [Nat.zero_mul, Nat.add_zero, List.getElem?_cons_zero] at g0; clear hcell hv0 hu hb2) | (go_at_call 27; refine (SameInts_any (HV.out.below (by go_grown)) (lit5 (heap_new _ _ (by go_size)))).mono ?_; rintro e w3 ⟨rfl, hb3⟩))
  go_ret
  exact ⟨rfl, thenBelow HB2.out (Below.trans (by go_grown) (hb3.mono (by go_size)))⟩
end Go.Proofs.Ytgbgfkhkjlakbaa

namespace Go.Proofs.Ytgbgfkhkjlakbaa
open Go.RowKit Go.Deep
variable {J : World → Prop}
def cLi (xs : List Int) : List AV := [intsA xs]
theorem lenLi (xs : List Int) : (cLi xs).length = 1 := rfl
namespace Sh
abbrev InOk (xs : List Int) : Prop := ∀ x ∈ xs, I64 x
section
variable {P : Program} {f : FuncId}
theorem ctr2 {A B u : AV} (H : ∀ (w : World) (v v' : Value), (∀ w', Below w.heap.size w w' → J w') → Pu (fun _ => True) w (fun b => b < w.heap.size) A v → Pu (fun _ => True) w (fun b => b < w.heap.size) B v' → Calls P f #[v, v'] w fun e w' => ∃ v, e = .returned v ∧ Pu (w.heap.size ≤ ·) w' (nw w' w.heap.size) u v ∧ Below w.heap.size w w') : Ctr P J f [A, B] u := fun w vs hJ hl hv => by
  obtain ⟨v, v', rfl⟩ : ∃ v v', vs = #[v, v'] := by
    match vs, hl with
    | ⟨[v, v']⟩, _ => exact ⟨v, v', rfl⟩
  exact H w v v' hJ (hv 0 (by simp)) (hv 1 (by simp))
theorem ret_sc {w : World} {r : Value} {e : Ending} {w' : World} (h : e = .returned r ∧ Below w.heap.size w w') : ∃ v, e = .returned v ∧ Pu (w.heap.size ≤ ·) w' (nw w' w.heap.size) (.v r) v ∧ Below w.heap.size w w' := ⟨r, h.1, .v r, h.2⟩
end
/-- The shapes of an odd number of nodes. -/
def sR : Nat → List (List Int)
  | 1 => [[0]]
  | 3 => [[2, 0, 0]]
  | 5 => [[2, 0, 2, 0, 0], [2, 2, 0, 0, 0]]
  | 7 => [[2, 0, 2, 0, 2, 0, 0], [2, 0, 2, 2, 0, 0, 0], [2, 2, 0, 0, 2, 0, 0], [2, 2, 0, 2, 0, 0, 0], [2, 2, 2, 0, 0, 0, 0]]
  | _ => []
theorem odd4 {n : Nat} (h : n ≤ 7) (ho : n % 2 = 1) : n = 1 ∨ n = 3 ∨ n = 5 ∨ n = 7 := by omega
theorem sR_len {n : Nat} (h : n ≤ 7) (ho : n % 2 = 1) : (sR n).length ≤ 5 := by
  rcases odd4 h ho with rfl | rfl | rfl | rfl <;> decide
theorem sR_mem {n : Nat} (h : n ≤ 7) (ho : n % 2 = 1) : ∀ xs ∈ sR n, xs.length ≤ 7 ∧ InOk xs := by
  rcases odd4 h ho with rfl | rfl | rfl | rfl <;> (intro xs hx; simp only [sR, List.mem_cons, List.not_mem_nil, or_false] at hx)
  all_goals
    have key : ∀ ys : List Int, (∀ y ∈ ys, y = 0 ∨ y = 2) → InOk ys := fun ys hy y hm => by
      rcases hy y hm with rfl | rfl <;> (unfold I64; omega)
  · subst hx; exact ⟨by decide, key _ (by decide)⟩
  · subst hx; exact ⟨by decide, key _ (by decide)⟩
  · rcases hx with rfl | rfl <;> exact ⟨by decide, key _ (by decide)⟩
  · rcases hx with rfl | rfl | rfl | rfl | rfl <;> exact ⟨by decide, key _ (by decide)⟩
/-- What Shapes returns. -/
def shX (n : Int) : List (List Int) := if n < 1 ∨ 8 < n then [] else if n % 2 = 0 then [] else sR n.toNat
def shZ (n : Int) : Int := if n < 1 ∨ 8 < n then 1 else 0
theorem shL_eq : ∀ n, 1 ≤ n → n ≤ 8 → shL n = shX (n : Nat) := by
  intro n h1 h8
  obtain rfl | rfl | rfl | rfl | rfl | rfl | rfl | rfl : n = 1 ∨ n = 2 ∨ n = 3 ∨ n = 4 ∨ n = 5 ∨ n = 6 ∨ n = 7 ∨ n = 8 := by omega
  all_goals decide +kernel
theorem shX_mem (n : Int) : ∀ xs ∈ shX n, xs.length ≤ 7 ∧ InOk xs := by
  unfold shX
  split
  · intro xs h; cases h
  · split
    · intro xs h; cases h
    · exact sR_mem (by omega) (by omega)
theorem shX_len (n : Int) : (shX n).length ≤ 5 := by
  unfold shX
  split
  · simp
  · split
    · simp
    · exact sR_len (by omega) (by omega)
theorem Shapes_p (n : Int) : CtrP Try.prog J 11 [iv n] (.tup [slA 1 cLi (shX n), iv (shZ n)]) := fun w vs _ hl hv => by
  match vs, hl, hv with
  | ⟨[v0]⟩, _, hv =>
    obtain rfl := (hv 0 (by simp)).v_inv
    by_cases h : n < 1 ∨ 8 < n
    · have e1 : shX n = [] := by unfold shX; rw [if_pos h]
      have e2 : shZ n = 1 := by unfold shZ; rw [if_pos h]
      rw [e1, e2]
      refine (Shapes_bad n h w).mono fun e w' ⟨he, hw⟩ => ⟨_, he, ?_, by rw [← hw]; exact Below.refl _ _⟩
      exact .tup rfl fun j hj => (match j, hj with
        | 0, _ => .sl0 (by simp [maxLen]) (by simp)
        | 1, _ => .v _)
    · obtain ⟨m, rfl⟩ := Int.eq_ofNat_of_zero_le (show 0 ≤ n by omega)
      have e2 : shZ ((m : Nat) : Int) = 0 := by unfold shZ; rw [if_neg h]
      rw [e2]
      have hs := Shapes_ok m (by omega) (by omega) w
      rw [shL_eq m (by omega) (by omega)] at hs
      refine hs.mono fun e w' ⟨u, he, hu, hb⟩ => ⟨_, he, ?_, hb⟩
      exact .tup rfl fun j hj => (match j, hj with
        | 0, _ => sl_pu lenLi (fun b hb _ => hb) (fun xs vs hx i hi => by
            obtain ⟨v, rfl, h1⟩ := hx
            obtain rfl : i = 0 := by simp [cLi] at hi; exact hi
            exact ints_pu (fun b hb _ => hb) h1) hu
        | 1, _ => .v _)
theorem zknown_c : Ctr Try.prog J 8 [] (bv true) := fun w vs _ hl _ => by
  have : vs = #[] := Array.eq_empty_of_size_eq_zero (by simpa using hl)
  subst this
  exact (zknown_any w).mono fun _ _ => ret_sc
end Sh
end Go.Proofs.Ytgbgfkhkjlakbaa

namespace Go.Proofs.Ytgbgfkhkjlakbaa
open Go.RowKit Go.Deep
variable {J : World → Prop}
section
variable {P : Program} {o : Oper}
theorem sp_makeZ {t e k bytes z : Nat} {zv : Value} (fr : Bool) {kl kc : IntKind} {n : Nat} {x y : Operand} (ho : o.op = .makeSlice t x y) (hu : P.underlying t = some (.slice e)) (hi : (P.info? e).map (fun i => (i.size, i.bytes, i.zero)) = some (z, bytes, some zv)) (hz : zv.cells.size = z) (h0 : 0 < z)
    (hb : bytes * n ≤ 281474976710656) (h63 : n ≤ maxLen) {cs : List AV} (hcs : (List.range (n * z)).map (fun j => AV.v (zv.cells.getD (j % z) undef)) = cs) :
    ASpec P J o [(x, .v (.int kl (n : Int))), (y, .v (.int kc (n : Int)))] [] (.own k) (.new k (.row fr e z n cs)) :=
  aspec_new fun ρ B a w _ hB ha _ hk => by
    subst hcs
    obtain ⟨i, hi1, hi2⟩ := Option.map_eq_some_iff.1 hi
    simp only [Prod.mk.injEq] at hi2
    obtain ⟨e1, e2, e3⟩ := hi2
    have hx := (ha (x, .v (.int kl (n : Int))) (by simp)).v_inv
    have hy := (ha (y, .v (.int kc (n : Int))) (by simp)).v_inv
    have hsz : (madeCells zv.cells (n * z)).size = n * z := size_madeCells _ _
    have hget : ∀ j, j < n * z → (madeCells zv.cells (n * z))[j]? = some (zv.cells.getD (j % z) undef) := fun j hj => by
      have hlt : j % zv.cells.size < zv.cells.size := Nat.mod_lt _ (by omega)
      have hlt' : j % z < zv.cells.size := by rw [← hz]; exact hlt
      subst hz
      simp [madeCells, hj, Array.getD, hlt]
    have hrun := run_make (P := P) w t e i zv hu hi1 e3 kl kc n n (by omega) (by omega) (by rw [e2]; have := hb; omega) (by have := h63; simp only [maxLen] at this; omega)
    simp only [Int.toNat_natCast, e1] at hrun
    refine ⟨_, n, n, madeCells zv.cells (n * z), e, ?_, .own (nm := .at w.heap.size n n) (upd_same _ _ _), (madeCells zv.cells (n * z)).toList, ⟨by simp [hsz], .inr ⟨w.heap.size, n, madeCells zv.cells (n * z), rfl, rowB_le hB, heap_alloc_new w _, Nat.le_refl _, h63, hsz, by rw [List.take_of_length_le]; simp [hsz]⟩⟩, by simp [hsz], fun j hj => ?_⟩
    · simp only [execOp, ho, hx, hy]
      exact run_val hrun
    · have hj' : j < n * z := by simpa using hj
      have : (madeCells zv.cells (n * z)).toList.getD j undef = zv.cells.getD (j % z) undef := by
        rw [List.getD_eq_getElem?_getD, Array.getElem?_toList, hget j hj']; rfl
      rw [this]
      simp only [List.getElem_map, List.getElem_range]
      exact .v _
end
theorem setAll_mid (ds : List AV) : ∀ (A C D : List AV), C.length = ds.length → setAll (A ++ C ++ D) A.length ds = A ++ ds ++ D := by
  induction ds with
  | nil => intro A C D h; rw [List.eq_nil_of_length_eq_zero h]; rfl
  | cons d ds ih =>
    intro A C D h
    cases C with
    | nil => cases h
    | cons c C =>
      rw [setAll]
      have e : (A ++ c :: C ++ D).set A.length d = (A ++ [d]) ++ C ++ D := by
        rw [List.append_assoc, List.set_append_right _ _ (Nat.le_refl _)]
        simp
      rw [e]
      have := ih (A ++ [d]) C D (by simpa using h)
      simp only [List.length_append, List.length_cons, List.length_nil, Nat.zero_add] at this
      rw [this]
      simp
end Go.Proofs.Ytgbgfkhkjlakbaa

namespace Go.Proofs.Ytgbgfkhkjlakbaa
open Go.RowKit Go.Deep
variable {J : World → Prop}
theorem plain_sz (n t f : Int) : ∀ X ∈ cSz n t f, Plain X := by
  intro X hX; simp only [cSz, List.mem_cons, List.not_mem_nil, or_false] at hX
  rcases hX with rfl | rfl | rfl <;> exact .v _
set_option linter.unusedSimpArgs false in
set_option linter.unusedVariables false in
set_option maxRecDepth 100000 in
set_option maxHeartbeats 6400000 in
theorem radmissible_c {q : Fm} (HQ : FmOk q) (n t f : Int) : Ctr Try.prog J 57 [.agg (cFm q), .agg (cSz n t f)] (bv (admB q n t f)) := by
 have l5 := HQ.lres
 refine ctr_of_tri Try.func57 rfl (by intro X hX; simp only [List.mem_cons, List.not_mem_nil, or_false] at hX; rcases hX with rfl | rfl; exact plain_agg (plain_fm q); exact plain_agg (plain_sz n t f)) (n := 63) rfl (by simp) (fun w0 => ?_)
 refine kW 63 [] [(0, .agg (cFm q)), (1, .agg (cSz n t f))] ?_
 refine tri_seq ?_
 refine tri_region ?_
 refine t_op rfl (sp_box (X := .agg (cFm q)) (k := 1) (.tmp 0) rfl rfl) ⟨I0, T0⟩ T0 rfl ?_
 refine t_op rfl (sp_box (X := .agg (cSz n t f)) (k := 2) (.tmp 1) rfl rfl) ⟨I0, T0⟩ T0 rfl ?_
 refine oA (sp_assign (.const (.bool false)) (bv false) rfl) I0 ?_
 refine kN 63 [(1, .box 27 (cFm q)), (2, .box 29 (cSz n t f))] [(2, .box 1 0), (3, .box 2 0), (4, bv false)] ?_
 refine t_then ?_
 refine tri_seq ?_
 refine tri_seq ?_
 refine t_cut (True) (ofL [(1, .box 27 (cFm q)), (2, .box 29 (cSz n t f))]) (ofT 63 [(2, .box 1 0), (3, .box 2 0), (4, bv false), (25, bv (radA n t f))]) ?_ (fun _ => ?_)
 by_cases hs1 : (inB 1 1048576 n) = true
 by_cases hs2 : (inB 0 n t) = true
 by_cases hs3 : (inB 0 n f) = true
 refine tri_region ?_
 refine oA (fB 0 (.tmp 3) rfl Try.underlying29 rfl 1 rfl) I0 ?_
 refine oB (lB (.box 29 (cSz n t f)) (iv n) (.tmp 6) rfl Try.underlying3 rfl rfl) I0 rfl ?_
 refine t_op rfl (sp_call (c := .func 69) (xs := #[.tmp 7, .const (.int .i64 1), .const (.int .i64 1048576)]) [] (ctr_b (within_c n 1 1048576) hs1) rfl (by kernel_rfl) rfl (Xs := [iv n, iv 1, iv 1048576]) rfl rfl rfl) ⟨I0, I0, I0, I0, T0⟩ T0 T0 ?_
 refine oA (sp_not rfl rfl) I0 ?_
 refine oA (sp_move (.tmp 9) (bv false) rfl) I0 ?_
 refine gA (fB 1 (.tmp 3) rfl Try.underlying29 rfl 1 rfl) I0 ?_
 refine gB (lB (.box 29 (cSz n t f)) (iv t) (.tmp 11) rfl Try.underlying3 rfl rfl) I0 rfl ?_
 refine gA (fB 0 (.tmp 3) rfl Try.underlying29 rfl 1 rfl) I0 ?_
 refine gB (lB (.box 29 (cSz n t f)) (iv n) (.tmp 13) rfl Try.underlying3 rfl rfl) I0 rfl ?_
 refine t_opG rfl (sp_call (c := .func 69) (xs := #[.tmp 12, .const (.int .i64 0), .tmp 14]) [] (ctr_b (within_c t 0 n) hs2) rfl (by kernel_rfl) rfl (Xs := [iv t, iv 0, iv n]) rfl rfl rfl) ⟨I0, I0, I0, I0, T0⟩ T0 T0 ?_
 refine gA (sp_not rfl rfl) I0 ?_
 refine oD (sp_pick (.tmp 10) (.const (.bool true)) (.tmp 16) false (bv true) (bv false) rfl) I0 I0 I0 ?_
 refine oA (sp_move (.tmp 17) (bv false) rfl) I0 ?_
 refine gA (fB 2 (.tmp 3) rfl Try.underlying29 rfl 1 rfl) I0 ?_
 refine gB (lB (.box 29 (cSz n t f)) (iv f) (.tmp 19) rfl Try.underlying3 rfl rfl) I0 rfl ?_
 refine gA (fB 0 (.tmp 3) rfl Try.underlying29 rfl 1 rfl) I0 ?_
 refine gB (lB (.box 29 (cSz n t f)) (iv n) (.tmp 21) rfl Try.underlying3 rfl rfl) I0 rfl ?_
 refine t_opG rfl (sp_call (c := .func 69) (xs := #[.tmp 20, .const (.int .i64 0), .tmp 22]) [] (ctr_b (within_c f 0 n) hs3) rfl (by kernel_rfl) rfl (Xs := [iv f, iv 0, iv n]) rfl rfl rfl) ⟨I0, I0, I0, I0, T0⟩ T0 T0 ?_
 refine gA (sp_not rfl rfl) I0 ?_
 refine oD (sp_pick (.tmp 18) (.const (.bool true)) (.tmp 24) false (bv true) (bv false) rfl) I0 I0 I0 ?_
 refine kN 63 [(1, .box 27 (cFm q)), (2, .box 29 (cSz n t f))] [(2, .box 1 0), (3, .box 2 0), (4, bv false), (25, bv false)] ?_
 rw [show (radA n t f) = false by simp only [radA, Bool.or_true, Bool.true_or, Bool.or_false, Bool.false_or, Bool.and_true, Bool.true_and, Bool.and_false, Bool.false_and, Bool.not_true, Bool.not_false, hs1, hs2, hs3]]
 exact t_meet T0 (wk_keep _ _ rfl (by kernel_rfl) (by kernel_rfl))
 have hs3f : (inB 0 n f) = false := by simpa using hs3
 refine tri_region ?_
 refine oA (fB 0 (.tmp 3) rfl Try.underlying29 rfl 1 rfl) I0 ?_
 refine oB (lB (.box 29 (cSz n t f)) (iv n) (.tmp 6) rfl Try.underlying3 rfl rfl) I0 rfl ?_
 refine t_op rfl (sp_call (c := .func 69) (xs := #[.tmp 7, .const (.int .i64 1), .const (.int .i64 1048576)]) [] (ctr_b (within_c n 1 1048576) hs1) rfl (by kernel_rfl) rfl (Xs := [iv n, iv 1, iv 1048576]) rfl rfl rfl) ⟨I0, I0, I0, I0, T0⟩ T0 T0 ?_
 refine oA (sp_not rfl rfl) I0 ?_
 refine oA (sp_move (.tmp 9) (bv false) rfl) I0 ?_
 refine gA (fB 1 (.tmp 3) rfl Try.underlying29 rfl 1 rfl) I0 ?_
 refine gB (lB (.box 29 (cSz n t f)) (iv t) (.tmp 11) rfl Try.underlying3 rfl rfl) I0 rfl ?_
 refine gA (fB 0 (.tmp 3) rfl Try.underlying29 rfl 1 rfl) I0 ?_
 refine gB (lB (.box 29 (cSz n t f)) (iv n) (.tmp 13) rfl Try.underlying3 rfl rfl) I0 rfl ?_
 refine t_opG rfl (sp_call (c := .func 69) (xs := #[.tmp 12, .const (.int .i64 0), .tmp 14]) [] (ctr_b (within_c t 0 n) hs2) rfl (by kernel_rfl) rfl (Xs := [iv t, iv 0, iv n]) rfl rfl rfl) ⟨I0, I0, I0, I0, T0⟩ T0 T0 ?_
 refine gA (sp_not rfl rfl) I0 ?_
 refine oD (sp_pick (.tmp 10) (.const (.bool true)) (.tmp 16) false (bv true) (bv false) rfl) I0 I0 I0 ?_
 refine oA (sp_move (.tmp 17) (bv false) rfl) I0 ?_
 refine gA (fB 2 (.tmp 3) rfl Try.underlying29 rfl 1 rfl) I0 ?_
 refine gB (lB (.box 29 (cSz n t f)) (iv f) (.tmp 19) rfl Try.underlying3 rfl rfl) I0 rfl ?_
 refine gA (fB 0 (.tmp 3) rfl Try.underlying29 rfl 1 rfl) I0 ?_
 refine gB (lB (.box 29 (cSz n t f)) (iv n) (.tmp 21) rfl Try.underlying3 rfl rfl) I0 rfl ?_
 refine t_opG rfl (sp_call (c := .func 69) (xs := #[.tmp 20, .const (.int .i64 0), .tmp 22]) [] (ctr_b (within_c f 0 n) hs3f) rfl (by kernel_rfl) rfl (Xs := [iv f, iv 0, iv n]) rfl rfl rfl) ⟨I0, I0, I0, I0, T0⟩ T0 T0 ?_
 refine gA (sp_not rfl rfl) I0 ?_
 refine oD (sp_pick (.tmp 18) (.const (.bool true)) (.tmp 24) false (bv true) (bv true) rfl) I0 I0 I0 ?_
 refine kN 63 [(1, .box 27 (cFm q)), (2, .box 29 (cSz n t f))] [(2, .box 1 0), (3, .box 2 0), (4, bv false), (25, bv true)] ?_
 rw [show (radA n t f) = true by simp only [radA, Bool.or_true, Bool.true_or, Bool.or_false, Bool.false_or, Bool.and_true, Bool.true_and, Bool.and_false, Bool.false_and, Bool.not_true, Bool.not_false, hs1, hs2, hs3f]]
 exact t_meet T0 (wk_keep _ _ rfl (by kernel_rfl) (by kernel_rfl))
 have hs2f : (inB 0 n t) = false := by simpa using hs2
 refine tri_region ?_
 refine oA (fB 0 (.tmp 3) rfl Try.underlying29 rfl 1 rfl) I0 ?_
 refine oB (lB (.box 29 (cSz n t f)) (iv n) (.tmp 6) rfl Try.underlying3 rfl rfl) I0 rfl ?_
 refine t_op rfl (sp_call (c := .func 69) (xs := #[.tmp 7, .const (.int .i64 1), .const (.int .i64 1048576)]) [] (ctr_b (within_c n 1 1048576) hs1) rfl (by kernel_rfl) rfl (Xs := [iv n, iv 1, iv 1048576]) rfl rfl rfl) ⟨I0, I0, I0, I0, T0⟩ T0 T0 ?_
 refine oA (sp_not rfl rfl) I0 ?_
 refine oA (sp_move (.tmp 9) (bv false) rfl) I0 ?_
 refine gA (fB 1 (.tmp 3) rfl Try.underlying29 rfl 1 rfl) I0 ?_
 refine gB (lB (.box 29 (cSz n t f)) (iv t) (.tmp 11) rfl Try.underlying3 rfl rfl) I0 rfl ?_
 refine gA (fB 0 (.tmp 3) rfl Try.underlying29 rfl 1 rfl) I0 ?_
 refine gB (lB (.box 29 (cSz n t f)) (iv n) (.tmp 13) rfl Try.underlying3 rfl rfl) I0 rfl ?_
 refine t_opG rfl (sp_call (c := .func 69) (xs := #[.tmp 12, .const (.int .i64 0), .tmp 14]) [] (ctr_b (within_c t 0 n) hs2f) rfl (by kernel_rfl) rfl (Xs := [iv t, iv 0, iv n]) rfl rfl rfl) ⟨I0, I0, I0, I0, T0⟩ T0 T0 ?_
 refine gA (sp_not rfl rfl) I0 ?_
 refine oD (sp_pick (.tmp 10) (.const (.bool true)) (.tmp 16) false (bv true) (bv true) rfl) I0 I0 I0 ?_
 refine oA (sp_move (.tmp 17) (bv true) rfl) I0 ?_
 refine t_skip rfl ?_
 refine t_skip rfl ?_
 refine t_skip rfl ?_
 refine t_skip rfl ?_
 refine t_skip rfl ?_
 refine t_skip rfl ?_
 refine oD (sp_pick (.tmp 18) (.const (.bool true)) (.tmp 24) true (bv true) (.v (.tuple #[])) rfl) I0 I0 I0 ?_
 refine kN 63 [(1, .box 27 (cFm q)), (2, .box 29 (cSz n t f))] [(2, .box 1 0), (3, .box 2 0), (4, bv false), (25, bv true)] ?_
 rw [show (radA n t f) = true by simp only [radA, Bool.or_true, Bool.true_or, Bool.or_false, Bool.false_or, Bool.and_true, Bool.true_and, Bool.and_false, Bool.false_and, Bool.not_true, Bool.not_false, hs1, hs2f]]
 exact t_meet T0 (wk_keep _ _ rfl (by kernel_rfl) (by kernel_rfl))
 have hs1f : (inB 1 1048576 n) = false := by simpa using hs1
 refine tri_region ?_
 refine oA (fB 0 (.tmp 3) rfl Try.underlying29 rfl 1 rfl) I0 ?_
 refine oB (lB (.box 29 (cSz n t f)) (iv n) (.tmp 6) rfl Try.underlying3 rfl rfl) I0 rfl ?_
 refine t_op rfl (sp_call (c := .func 69) (xs := #[.tmp 7, .const (.int .i64 1), .const (.int .i64 1048576)]) [] (ctr_b (within_c n 1 1048576) hs1f) rfl (by kernel_rfl) rfl (Xs := [iv n, iv 1, iv 1048576]) rfl rfl rfl) ⟨I0, I0, I0, I0, T0⟩ T0 T0 ?_
 refine oA (sp_not rfl rfl) I0 ?_
 refine oA (sp_move (.tmp 9) (bv true) rfl) I0 ?_
 refine t_skip rfl ?_
 refine t_skip rfl ?_
 refine t_skip rfl ?_
 refine t_skip rfl ?_
 refine t_skip rfl ?_
 refine t_skip rfl ?_
 refine oD (sp_pick (.tmp 10) (.const (.bool true)) (.tmp 16) true (bv true) (.v (.tuple #[])) rfl) I0 I0 I0 ?_
 refine oA (sp_move (.tmp 17) (bv true) rfl) I0 ?_
 refine t_skip rfl ?_
 refine t_skip rfl ?_
 refine t_skip rfl ?_
 refine t_skip rfl ?_
 refine t_skip rfl ?_
 refine t_skip rfl ?_
 refine oD (sp_pick (.tmp 18) (.const (.bool true)) (.tmp 24) true (bv true) (.v (.tuple #[])) rfl) I0 I0 I0 ?_
 refine kN 63 [(1, .box 27 (cFm q)), (2, .box 29 (cSz n t f))] [(2, .box 1 0), (3, .box 2 0), (4, bv false), (25, bv true)] ?_
 rw [show (radA n t f) = true by simp only [radA, Bool.or_true, Bool.true_or, Bool.or_false, Bool.false_or, Bool.and_true, Bool.true_and, Bool.and_false, Bool.false_and, Bool.not_true, Bool.not_false, hs1f]]
 exact t_meet T0 (wk_keep _ _ rfl (by kernel_rfl) (by kernel_rfl))
 refine t_then ?_
 by_cases hs4 : (radA n t f) = true
 rw [hs4]
 refine kW 63 [(1, .box 27 (cFm q)), (2, .box 29 (cSz n t f))] [(2, .box 1 0), (3, .box 2 0), (4, bv false), (25, bv true)] ?_
 refine t_condT rfl ?_
 refine tri_seq ?_
 refine tri_region ?_
 refine oA (sp_assign (.const (.bool false)) (bv false) rfl) I0 ?_
 refine kN 63 [(1, .box 27 (cFm q)), (2, .box 29 (cSz n t f))] [(2, .box 1 0), (3, .box 2 0), (4, bv false)] ?_
 refine t_then ?_
 refine tri_ret ?_
 refine t_then_ret ?_
 refine tri_end1 Try.results57 (.tmp rfl) ?_
 exact congrArg (fun x : Bool => AV.v (.bool x)) ((adm_a hs4).symm)
 have hs4f : (radA n t f) = false := by simpa using hs4
 rw [hs4f]
 refine kW 63 [(1, .box 27 (cFm q)), (2, .box 29 (cSz n t f))] [(2, .box 1 0), (3, .box 2 0), (4, bv false), (25, bv false)] ?_
 refine t_condF rfl ?_
 refine tri_skip ?_
 refine t_then ?_
 refine tri_seq ?_
 refine tri_seq ?_
 refine tri_region ?_
 refine oA (sp_assign (.const (.int .i64 0)) (iv 0) rfl) I0 ?_
 refine kN 63 [(1, .box 27 (cFm q)), (2, .box 29 (cSz n t f))] [(2, .box 1 0), (3, .box 2 0), (4, bv false), (5, iv 0)] ?_
 refine t_then ?_
 refine t_cut (resvK q n t f q.res.length = true) (ofL [(1, .box 27 (cFm q)), (2, .box 29 (cSz n t f))]) (ofT 63 [(2, .box 1 0), (3, .box 2 0)]) ?_ (fun RES => ?_)
 refine tri_block ?_
 refine tri_loop (σ := {k : Nat // k ≤ q.res.length ∧ resvK q n t f k = true}) (fun s => (ofL [(1, .box 27 (cFm q)), (2, .box 29 (cSz n t f))], ofT 63 [(2, .box 1 0), (3, .box 2 0), (5, iv s.1)])) (fun s => q.res.length - s.1) ⟨0, Nat.zero_le _, rfl⟩ (wk_keep _ _ rfl (by kernel_rfl) (by kernel_rfl)) (fun s => ?_)
 obtain ⟨k, hk0, hs0⟩ := s
 show ETri J w0 (ofL [(1, .box 27 (cFm q)), (2, .box 29 (cSz n t f))]) (ofT 63 [(2, .box 1 0), (3, .box 2 0), (5, iv k)]) _
 refine tri_seq ?_
 refine tri_seq ?_
 by_cases hs5 : ((k : Nat) : Int) < ((q.res.length : Nat) : Int)
 refine tri_region ?_
 refine oA (sp_move (.tmp 5) (iv k) rfl) I0 ?_
 refine oA (fB 6 (.tmp 2) rfl Try.underlying27 rfl 1 rfl) I0 ?_
 refine oB (lB (.box 27 (cFm q)) (slA 4 cLn q.res) (.tmp 27) rfl Try.underlying23 rfl rfl) I0 rfl ?_
 refine oA (sp_lenSl (.tmp 28) rfl Try.underlying23) I0 ?_
 refine oC (sp_lss rfl (dT hs5)) I0 I0 ?_
 refine kN 63 [(1, .box 27 (cFm q)), (2, .box 29 (cSz n t f))] [(2, .box 1 0), (3, .box 2 0), (5, iv k), (30, bv true)] ?_
 refine t_then ?_
 refine t_condT rfl ?_
 refine tri_skip ?_
 refine t_then ?_
 refine tri_seq ?_
 refine tri_block ?_
 refine tri_seq ?_
 by_cases hs6 : linV q.res[k].c q.res[k].n q.res[k].t q.res[k].f n t f < 0
 refine tri_draw [⟨[(.tmp 2, .box 1 0)], [], .box 1 6, .no⟩, ⟨[(.tmp 33, .box 1 6)], [(1, .box 27 (cFm q))], slA 4 cLn q.res, .no⟩, ⟨[(.tmp 5, iv k)], [], iv k, .no⟩, ⟨[(.tmp 34, slA 4 cLn q.res), (.tmp 35, iv k)], [], .el (q.res.flatMap cLn) (k * 4), .no⟩, ⟨[(.tmp 36, .el (q.res.flatMap cLn) (k * 4))], [], .agg (cLn q.res[k]), .no⟩, ⟨[(.tmp 3, .box 2 0)], [(2, .box 29 (cSz n t f))], .agg (cSz n t f), .no⟩, ⟨[(.func 92, .v (.func (.func 92) #[] #[])), (.tmp 37, .agg (cLn q.res[k])), (.tmp 38, .agg (cSz n t f))], [], iv (linV q.res[k].c q.res[k].n q.res[k].t q.res[k].f n t f), .no⟩, ⟨[(.tmp 39, iv (linV q.res[k].c q.res[k].n q.res[k].t q.res[k].f n t f)), (.const (.int .i64 0), iv 0)], [], bv true, .no⟩] (by kernel_rfl) (by kernel_rfl) ?_
 refine ⟨app_yes rfl (fB 6 (.tmp 2) rfl Try.underlying27 rfl 1 rfl) ⟨I0, T0⟩ T0 T0, ?_⟩
 refine ⟨app_yes rfl (lB (.box 27 (cFm q)) (slA 4 cLn q.res) (.tmp 33) rfl Try.underlying23 rfl rfl) ⟨I0, T0⟩ ⟨rfl, T0⟩ T0, ?_⟩
 refine ⟨app_yes rfl (sp_move (.tmp 5) (iv k) rfl) ⟨I0, T0⟩ T0 T0, ?_⟩
 refine ⟨app_yes rfl (sp_indexSl (off := k * 4) (.tmp 34) (.tmp 35) rfl Try.underlying23 (by kernel_rfl) (by omega) (by omega) rfl) ⟨I0, I0, T0⟩ T0 T0, ?_⟩
 refine ⟨app_yes rfl (sp_loadElS (z := 4) (.tmp 36) rfl Try.underlying104 rfl (by kernel_rfl) (flat_take lenLn q.res k (by omega)) rfl) ⟨I0, T0⟩ T0 T0, ?_⟩
 refine ⟨app_yes rfl (sp_loadBoxS (Y := .box 29 (cSz n t f)) (ds := cSz n t f) (z := 3) (.tmp 3) rfl Try.underlying29 rfl (by kernel_rfl) (by decide) (by kernel_rfl) (by kernel_rfl)) ⟨I0, T0⟩ ⟨rfl, T0⟩ T0, ?_⟩
 refine ⟨app_yes rfl (sp_call (c := .func 92) (xs := #[.tmp 37, .tmp 38]) [] (value_c q.res[k] n t f) rfl (by kernel_rfl) rfl (Xs := [.agg (cLn q.res[k]), .agg (cSz n t f)]) rfl rfl rfl) ⟨I0, I0, I0, T0⟩ T0 T0, ?_⟩
 refine ⟨app_yes rfl (sp_lss rfl (dT hs6)) ⟨I0, I0, T0⟩ T0 T0, ?_⟩
 show ETri J w0 _ _ _
 refine kW 63 [(1, .box 27 (cFm q)), (2, .box 29 (cSz n t f))] [(2, .box 1 0), (3, .box 2 0), (5, iv k), (30, bv true), (40, bv true)] ?_
 refine t_then ?_
 refine t_condT rfl ?_
 refine tri_seq ?_
 refine tri_region ?_
 refine oA (sp_assign (.const (.bool false)) (bv false) rfl) I0 ?_
 refine kN 63 [(1, .box 27 (cFm q)), (2, .box 29 (cSz n t f))] [(2, .box 1 0), (3, .box 2 0), (4, bv false), (5, iv k), (30, bv true), (40, bv true)] ?_
 refine t_then ?_
 refine tri_ret ?_
 refine t_block_ret ?_
 refine t_then_ret ?_
 refine t_then_ret ?_
 refine t_block_ret ?_
 refine t_cut_ret ?_
 refine t_then_ret ?_
 refine tri_end1 Try.results57 (.tmp rfl) ?_
 exact congrArg (fun x : Bool => AV.v (.bool x)) ((adm_r (k := k) (by omega) hs6).symm)
 refine tri_draw [⟨[(.tmp 2, .box 1 0)], [], .box 1 6, .no⟩, ⟨[(.tmp 33, .box 1 6)], [(1, .box 27 (cFm q))], slA 4 cLn q.res, .no⟩, ⟨[(.tmp 5, iv k)], [], iv k, .no⟩, ⟨[(.tmp 34, slA 4 cLn q.res), (.tmp 35, iv k)], [], .el (q.res.flatMap cLn) (k * 4), .no⟩, ⟨[(.tmp 36, .el (q.res.flatMap cLn) (k * 4))], [], .agg (cLn q.res[k]), .no⟩, ⟨[(.tmp 3, .box 2 0)], [(2, .box 29 (cSz n t f))], .agg (cSz n t f), .no⟩, ⟨[(.func 92, .v (.func (.func 92) #[] #[])), (.tmp 37, .agg (cLn q.res[k])), (.tmp 38, .agg (cSz n t f))], [], iv (linV q.res[k].c q.res[k].n q.res[k].t q.res[k].f n t f), .no⟩, ⟨[(.tmp 39, iv (linV q.res[k].c q.res[k].n q.res[k].t q.res[k].f n t f)), (.const (.int .i64 0), iv 0)], [], bv false, .no⟩] (by kernel_rfl) (by kernel_rfl) ?_
 refine ⟨app_yes rfl (fB 6 (.tmp 2) rfl Try.underlying27 rfl 1 rfl) ⟨I0, T0⟩ T0 T0, ?_⟩
 refine ⟨app_yes rfl (lB (.box 27 (cFm q)) (slA 4 cLn q.res) (.tmp 33) rfl Try.underlying23 rfl rfl) ⟨I0, T0⟩ ⟨rfl, T0⟩ T0, ?_⟩
 refine ⟨app_yes rfl (sp_move (.tmp 5) (iv k) rfl) ⟨I0, T0⟩ T0 T0, ?_⟩
 refine ⟨app_yes rfl (sp_indexSl (off := k * 4) (.tmp 34) (.tmp 35) rfl Try.underlying23 (by kernel_rfl) (by omega) (by omega) rfl) ⟨I0, I0, T0⟩ T0 T0, ?_⟩
 refine ⟨app_yes rfl (sp_loadElS (z := 4) (.tmp 36) rfl Try.underlying104 rfl (by kernel_rfl) (flat_take lenLn q.res k (by omega)) rfl) ⟨I0, T0⟩ T0 T0, ?_⟩
 refine ⟨app_yes rfl (sp_loadBoxS (Y := .box 29 (cSz n t f)) (ds := cSz n t f) (z := 3) (.tmp 3) rfl Try.underlying29 rfl (by kernel_rfl) (by decide) (by kernel_rfl) (by kernel_rfl)) ⟨I0, T0⟩ ⟨rfl, T0⟩ T0, ?_⟩
 refine ⟨app_yes rfl (sp_call (c := .func 92) (xs := #[.tmp 37, .tmp 38]) [] (value_c q.res[k] n t f) rfl (by kernel_rfl) rfl (Xs := [.agg (cLn q.res[k]), .agg (cSz n t f)]) rfl rfl rfl) ⟨I0, I0, I0, T0⟩ T0 T0, ?_⟩
 refine ⟨app_yes rfl (sp_lss rfl (dF hs6)) ⟨I0, I0, T0⟩ T0 T0, ?_⟩
 show ETri J w0 _ _ _
 refine kW 63 [(1, .box 27 (cFm q)), (2, .box 29 (cSz n t f))] [(2, .box 1 0), (3, .box 2 0), (5, iv k), (30, bv true), (40, bv false)] ?_
 refine t_then ?_
 refine t_condF rfl ?_
 refine tri_skip ?_
 refine t_block ?_
 refine t_then ?_
 refine tri_region ?_
 refine oA (sp_move (.tmp 5) (iv k) rfl) I0 ?_
 refine oC (sp_add (c := ((k + 1 : Nat) : Int)) rfl (w64 (by omega) (by omega) (by omega))) I0 I0 ?_
 refine oA (sp_assign (.tmp 32) (iv (k + 1 : Nat)) rfl) I0 ?_
 refine kN 63 [(1, .box 27 (cFm q)), (2, .box 29 (cSz n t f))] [(2, .box 1 0), (3, .box 2 0), (5, iv (k + 1 : Nat)), (30, bv true), (40, bv false)] ?_
 refine t_then ?_
 refine tri_again ⟨k + 1, by omega, resvK_succ (by omega) hs0 hs6⟩ (show q.res.length - (k + 1) < q.res.length - k by omega) ?_
 exact wk_keep _ _ rfl (by kernel_rfl) (by kernel_rfl)
 refine tri_region ?_
 refine oA (sp_move (.tmp 5) (iv k) rfl) I0 ?_
 refine oA (fB 6 (.tmp 2) rfl Try.underlying27 rfl 1 rfl) I0 ?_
 refine oB (lB (.box 27 (cFm q)) (slA 4 cLn q.res) (.tmp 27) rfl Try.underlying23 rfl rfl) I0 rfl ?_
 refine oA (sp_lenSl (.tmp 28) rfl Try.underlying23) I0 ?_
 refine oC (sp_lss rfl (dF hs5)) I0 I0 ?_
 refine kN 63 [(1, .box 27 (cFm q)), (2, .box 29 (cSz n t f))] [(2, .box 1 0), (3, .box 2 0), (5, iv k), (30, bv false)] ?_
 refine t_then ?_
 refine t_condF rfl ?_
 refine tri_exit ?_
 refine t_then_exit ?_
 refine t_then_exit ?_
 refine t_hit ?_
 exact t_meet (by have : k = q.res.length := (by omega); subst this; exact hs0) (wk_keep _ _ rfl (by kernel_rfl) (by kernel_rfl))
 refine t_then ?_
 refine tri_seq ?_
 refine tri_seq ?_
 refine t_cut (True) (ofL [(1, .box 27 (cFm q)), (2, .box 29 (cSz n t f))]) (ofT 63 [(2, .box 1 0), (3, .box 2 0), (53, bv (nofB q t f))]) ?_ (fun _ => ?_)
 by_cases hs7 : q.fault = 0
 by_cases hs8 : t = 0
 by_cases hs9 : f = 0
 refine tri_region ?_
 refine oA (fB 5 (.tmp 2) rfl Try.underlying27 rfl 1 rfl) I0 ?_
 refine oB (lB (.box 27 (cFm q)) (iv q.fault) (.tmp 41) rfl Try.underlying3 rfl rfl) I0 rfl ?_
 refine oC (sp_eql rfl (dT hs7)) I0 I0 ?_
 refine oA (sp_move (.tmp 43) (bv true) rfl) I0 ?_
 refine gA (fB 1 (.tmp 3) rfl Try.underlying29 rfl 1 rfl) I0 ?_
 refine gB (lB (.box 29 (cSz n t f)) (iv t) (.tmp 45) rfl Try.underlying3 rfl rfl) I0 rfl ?_
 refine gC (sp_neq rfl (dT' hs8)) I0 I0 ?_
 refine gA (sp_move (.tmp 47) (bv false) rfl) I0 ?_
 refine gA (fB 2 (.tmp 3) rfl Try.underlying29 rfl 1 rfl) I0 ?_
 refine gB (lB (.box 29 (cSz n t f)) (iv f) (.tmp 49) rfl Try.underlying3 rfl rfl) I0 rfl ?_
 refine gC (sp_neq rfl (dT' hs9)) I0 I0 ?_
 refine gD (sp_pick (.tmp 48) (.const (.bool true)) (.tmp 51) false (bv true) (bv false) rfl) I0 I0 I0 ?_
 refine oD (sp_pick (.tmp 44) (.tmp 52) (.const (.bool false)) true (bv false) (bv false) rfl) I0 I0 I0 ?_
 refine kN 63 [(1, .box 27 (cFm q)), (2, .box 29 (cSz n t f))] [(2, .box 1 0), (3, .box 2 0), (53, bv false)] ?_
 rw [show (nofB q t f) = false by simp only [nofB, Bool.or_true, Bool.true_or, Bool.or_false, Bool.false_or, Bool.and_true, Bool.true_and, Bool.and_false, Bool.false_and, Bool.not_true, Bool.not_false, hs4f, decide_eq_true hs7, decide_eq_true hs8, decide_eq_true hs9]]
 exact t_meet T0 (wk_keep _ _ rfl (by kernel_rfl) (by kernel_rfl))
 refine tri_region ?_
 refine oA (fB 5 (.tmp 2) rfl Try.underlying27 rfl 1 rfl) I0 ?_
 refine oB (lB (.box 27 (cFm q)) (iv q.fault) (.tmp 41) rfl Try.underlying3 rfl rfl) I0 rfl ?_
 refine oC (sp_eql rfl (dT hs7)) I0 I0 ?_
 refine oA (sp_move (.tmp 43) (bv true) rfl) I0 ?_
 refine gA (fB 1 (.tmp 3) rfl Try.underlying29 rfl 1 rfl) I0 ?_
 refine gB (lB (.box 29 (cSz n t f)) (iv t) (.tmp 45) rfl Try.underlying3 rfl rfl) I0 rfl ?_
 refine gC (sp_neq rfl (dT' hs8)) I0 I0 ?_
 refine gA (sp_move (.tmp 47) (bv false) rfl) I0 ?_
 refine gA (fB 2 (.tmp 3) rfl Try.underlying29 rfl 1 rfl) I0 ?_
 refine gB (lB (.box 29 (cSz n t f)) (iv f) (.tmp 49) rfl Try.underlying3 rfl rfl) I0 rfl ?_
 refine gC (sp_neq rfl (dF' hs9)) I0 I0 ?_
 refine gD (sp_pick (.tmp 48) (.const (.bool true)) (.tmp 51) false (bv true) (bv true) rfl) I0 I0 I0 ?_
 refine oD (sp_pick (.tmp 44) (.tmp 52) (.const (.bool false)) true (bv true) (bv false) rfl) I0 I0 I0 ?_
 refine kN 63 [(1, .box 27 (cFm q)), (2, .box 29 (cSz n t f))] [(2, .box 1 0), (3, .box 2 0), (53, bv true)] ?_
 rw [show (nofB q t f) = true by simp only [nofB, Bool.or_true, Bool.true_or, Bool.or_false, Bool.false_or, Bool.and_true, Bool.true_and, Bool.and_false, Bool.false_and, Bool.not_true, Bool.not_false, hs4f, decide_eq_true hs7, decide_eq_true hs8, decide_eq_false hs9]]
 exact t_meet T0 (wk_keep _ _ rfl (by kernel_rfl) (by kernel_rfl))
 refine tri_region ?_
 refine oA (fB 5 (.tmp 2) rfl Try.underlying27 rfl 1 rfl) I0 ?_
 refine oB (lB (.box 27 (cFm q)) (iv q.fault) (.tmp 41) rfl Try.underlying3 rfl rfl) I0 rfl ?_
 refine oC (sp_eql rfl (dT hs7)) I0 I0 ?_
 refine oA (sp_move (.tmp 43) (bv true) rfl) I0 ?_
 refine gA (fB 1 (.tmp 3) rfl Try.underlying29 rfl 1 rfl) I0 ?_
 refine gB (lB (.box 29 (cSz n t f)) (iv t) (.tmp 45) rfl Try.underlying3 rfl rfl) I0 rfl ?_
 refine gC (sp_neq rfl (dF' hs8)) I0 I0 ?_
 refine gA (sp_move (.tmp 47) (bv true) rfl) I0 ?_
 refine t_skip rfl ?_
 refine t_skip rfl ?_
 refine t_skip rfl ?_
 refine gD (sp_pick (.tmp 48) (.const (.bool true)) (.tmp 51) true (bv true) (.v (.tuple #[])) rfl) I0 I0 I0 ?_
 refine oD (sp_pick (.tmp 44) (.tmp 52) (.const (.bool false)) true (bv true) (bv false) rfl) I0 I0 I0 ?_
 refine kN 63 [(1, .box 27 (cFm q)), (2, .box 29 (cSz n t f))] [(2, .box 1 0), (3, .box 2 0), (53, bv true)] ?_
 rw [show (nofB q t f) = true by simp only [nofB, Bool.or_true, Bool.true_or, Bool.or_false, Bool.false_or, Bool.and_true, Bool.true_and, Bool.and_false, Bool.false_and, Bool.not_true, Bool.not_false, hs4f, decide_eq_true hs7, decide_eq_false hs8]]
 exact t_meet T0 (wk_keep _ _ rfl (by kernel_rfl) (by kernel_rfl))
 refine tri_region ?_
 refine oA (fB 5 (.tmp 2) rfl Try.underlying27 rfl 1 rfl) I0 ?_
 refine oB (lB (.box 27 (cFm q)) (iv q.fault) (.tmp 41) rfl Try.underlying3 rfl rfl) I0 rfl ?_
 refine oC (sp_eql rfl (dF hs7)) I0 I0 ?_
 refine oA (sp_move (.tmp 43) (bv false) rfl) I0 ?_
 refine t_skip rfl ?_
 refine t_skip rfl ?_
 refine t_skip rfl ?_
 refine t_skip rfl ?_
 refine t_skip rfl ?_
 refine t_skip rfl ?_
 refine t_skip rfl ?_
 refine t_skip rfl ?_
 refine oD (sp_pick (.tmp 44) (.tmp 52) (.const (.bool false)) false (.v (.tuple #[])) (bv false) rfl) I0 I0 I0 ?_
 refine kN 63 [(1, .box 27 (cFm q)), (2, .box 29 (cSz n t f))] [(2, .box 1 0), (3, .box 2 0), (53, bv false)] ?_
 rw [show (nofB q t f) = false by simp only [nofB, Bool.or_true, Bool.true_or, Bool.or_false, Bool.false_or, Bool.and_true, Bool.true_and, Bool.and_false, Bool.false_and, Bool.not_true, Bool.not_false, hs4f, decide_eq_false hs7]]
 exact t_meet T0 (wk_keep _ _ rfl (by kernel_rfl) (by kernel_rfl))
 refine t_then ?_
 by_cases hs10 : (nofB q t f) = true
 rw [hs10]
 refine kW 63 [(1, .box 27 (cFm q)), (2, .box 29 (cSz n t f))] [(2, .box 1 0), (3, .box 2 0), (53, bv true)] ?_
 refine t_condT rfl ?_
 refine tri_seq ?_
 refine tri_region ?_
 refine oA (sp_assign (.const (.bool false)) (bv false) rfl) I0 ?_
 refine kN 63 [(1, .box 27 (cFm q)), (2, .box 29 (cSz n t f))] [(2, .box 1 0), (3, .box 2 0), (4, bv false)] ?_
 refine t_then ?_
 refine tri_ret ?_
 refine t_then_ret ?_
 refine tri_end1 Try.results57 (.tmp rfl) ?_
 exact congrArg (fun x : Bool => AV.v (.bool x)) ((adm_f hs10).symm)
 have hs10f : (nofB q t f) = false := by simpa using hs10
 rw [hs10f]
 refine kW 63 [(1, .box 27 (cFm q)), (2, .box 29 (cSz n t f))] [(2, .box 1 0), (3, .box 2 0), (53, bv false)] ?_
 refine t_condF rfl ?_
 refine tri_skip ?_
 refine t_then ?_
 refine tri_seq ?_
 by_cases hs11 : q.top = 4
 refine tri_region ?_
 refine oA (fB 1 (.tmp 2) rfl Try.underlying27 rfl 1 rfl) I0 ?_
 refine oB (lB (.box 27 (cFm q)) (iv q.top) (.tmp 54) rfl Try.underlying3 rfl rfl) I0 rfl ?_
 refine oC (sp_neq rfl (dT' hs11)) I0 I0 ?_
 refine oA (sp_move (.tmp 56) (bv false) rfl) I0 ?_
 refine gA (fB 0 (.tmp 3) rfl Try.underlying29 rfl 1 rfl) I0 ?_
 refine gB (lB (.box 29 (cSz n t f)) (iv n) (.tmp 58) rfl Try.underlying3 rfl rfl) I0 rfl ?_
 refine gC (sp_rem rfl (by omega) (c := n.tmod 2) rfl) I0 I0 ?_
 refine gC (sp_eql rfl rfl) I0 I0 ?_
 refine oD (sp_pick (.tmp 57) (.const (.bool true)) (.tmp 61) false (bv true) (bv (decide (n.tmod 2 = 1))) rfl) I0 I0 I0 ?_
 refine oA (sp_assign (.tmp 62) (bv (decide (n.tmod 2 = 1))) rfl) I0 ?_
 refine kN 63 [] [(4, bv (decide (n.tmod 2 = 1)))] ?_
 refine t_then ?_
 refine tri_ret ?_
 refine tri_end1 Try.results57 (.tmp rfl) ?_
 exact congrArg (fun x : Bool => AV.v (.bool x)) ((adm_1 hs4f RES hs10f hs11).symm)
 refine tri_region ?_
 refine oA (fB 1 (.tmp 2) rfl Try.underlying27 rfl 1 rfl) I0 ?_
 refine oB (lB (.box 27 (cFm q)) (iv q.top) (.tmp 54) rfl Try.underlying3 rfl rfl) I0 rfl ?_
 refine oC (sp_neq rfl (dF' hs11)) I0 I0 ?_
 refine oA (sp_move (.tmp 56) (bv true) rfl) I0 ?_
 refine t_skip rfl ?_
 refine t_skip rfl ?_
 refine t_skip rfl ?_
 refine t_skip rfl ?_
 refine oD (sp_pick (.tmp 57) (.const (.bool true)) (.tmp 61) true (bv true) (.v (.tuple #[])) rfl) I0 I0 I0 ?_
 refine oA (sp_assign (.tmp 62) (bv true) rfl) I0 ?_
 refine kN 63 [] [(4, bv true)] ?_
 refine t_then ?_
 refine tri_ret ?_
 refine tri_end1 Try.results57 (.tmp rfl) ?_
 exact congrArg (fun x : Bool => AV.v (.bool x)) ((adm_0 hs4f RES hs10f hs11).symm)
end Go.Proofs.Ytgbgfkhkjlakbaa

namespace Go.Proofs.Ytgbgfkhkjlakbaa
open Go.RowKit Go.Deep
variable {J : World → Prop}
namespace Ns
def lk3 (top c i : Int) : List AV := [iv (rowL top c i).1, iv (rowL top c i).2.1, iv (rowL top c i).2.2]
def lkZ (top : Int) (n k : Nat) : List AV := (List.range k).flatMap (fun i : Nat => lk3 top n i) ++ (List.replicate (n - k) [iv 0, iv 0, iv 0]).flatten
theorem lkZ_zero (top : Int) (n : Nat) : (List.range (n * 3)).map (fun j => AV.v ((#[Value.int .i64 0, Value.int .i64 0, Value.int .i64 0] : Array Value).getD (j % 3) undef)) = lkZ top n 0 := by
  unfold lkZ
  rw [List.range_zero, List.flatMap_nil, List.nil_append, Nat.sub_zero]
  induction n with
  | zero => rfl
  | succ m ih =>
    rw [show (m + 1) * 3 = m * 3 + 1 + 1 + 1 by omega, List.range_succ, List.range_succ, List.range_succ, List.map_append, List.map_append, List.map_append, ih, List.replicate_succ', List.flatten_append]
    have e1 : (m * 3) % 3 = 0 := by omega
    have e2 : (m * 3 + 1) % 3 = 1 := by omega
    have e3 : (m * 3 + 1 + 1) % 3 = 2 := by omega
    simp [e2, e3]
theorem lkZ_pre (top : Int) (n : Nat) : ∀ k, ((List.range k).flatMap (fun i : Nat => lk3 top n i)).length = k * 3
  | 0 => rfl
  | k + 1 => by rw [List.range_succ, List.flatMap_append, List.length_append, lkZ_pre top n k]; simp [lk3]; omega
theorem lkZ_len {top : Int} {n k : Nat} (h : k ≤ n) : (lkZ top n k).length = n * 3 := by
  unfold lkZ
  rw [List.length_append, lkZ_pre, List.length_flatten]
  simp
  omega
theorem lkZ_step {top : Int} {n k : Nat} (h : k < n) : setAll (lkZ top n k) (k * 3) (rowCells true (lk3 top n k)) = lkZ top n (k + 1) := by
  unfold lkZ
  have e : n - k = (n - (k + 1)) + 1 := by omega
  rw [e, List.replicate_succ, List.flatten_cons]
  have := setAll_mid (rowCells true (lk3 top n k)) ((List.range k).flatMap (fun i : Nat => lk3 top n i)) [iv 0, iv 0, iv 0] (List.replicate (n - (k + 1)) [iv 0, iv 0, iv 0]).flatten rfl
  rw [lkZ_pre, List.append_assoc] at this
  rw [this, List.range_succ, List.flatMap_append]
  simp [rowCells, AV.unfr, lk3]
theorem rowLink_c {top c i : Int} (h0 : 0 ≤ i) (h1 : i < c) (hc : c ≤ 8) : Ctr Try.prog J 50 [iv top, iv c, iv i] (.agg (lk3 top c i)) := ctr3 fun w v v' v'' _ h h' h'' => by
  rw [h.v_inv, h'.v_inv, h''.v_inv]
  exact (rowLink_any top c i w h0 h1 (by omega)).mono fun _ _ hh => ⟨_, hh.1, .agg rfl fun j hj => (match j, hj with
    | 0, _ => .v _
    | 1, _ => .v _
    | 2, _ => .v _), hh.2⟩
/-- The links of a tree, in memory. -/
def lkT (xs : List Int) : AV := .sl 3 xs.length ((List.range (xs.length * 3)).map fun j => iv (cf (trun xs xs.length) j))
def cLk (xs : List Int) : List AV := [lkT xs]
theorem newLk (xs : List Int) : ∀ d ∈ [AV.fr (lkT xs)], d.isNew = true := fun d hd => by
  simp only [List.mem_cons, List.not_mem_nil, or_false] at hd; subst hd; rfl
theorem cellLk (xs : List Int) : ∀ d ∈ [AV.fr (lkT xs)], d.cell = true := fun d hd => by
  simp only [List.mem_cons, List.not_mem_nil, or_false] at hd; subst hd; rfl
theorem snocLk {L : List (List Int)} {k : Nat} (h : k < L.length) : (L.take k).flatMap cLk ++ rowCells true [.fr (lkT L[k])] = (L.take (k + 1)).flatMap cLk := by
  rw [List.take_succ_eq_append_getElem h, List.flatMap_append]; simp [rowCells, AV.unfr, cLk]
theorem treeLinks_c {xs : List Int} (hI : InOk xs) (h0 : 0 < xs.length) (h1 : xs.length ≤ 100) : Ctr Try.prog J 51 [intsA xs] (lkT xs) := ctr1 fun w v _ h => by
  have hi := pu_ints hI (fun _ _ => Nat.zero_le _) h
  obtain ⟨a, cap, rfl, _, _, _, hc⟩ := hi
  rcases hc with rfl | ⟨b, off, rfl, _, hb, hc⟩
  · simp at h0
  · refine (treeLinks_full b off xs.length cap w xs rfl h1 h0 hc).mono fun _ w' ⟨g, he, ho, hb⟩ => ⟨_, he, ?_, hb⟩
    obtain ⟨h2, cur, t, hg, hcur⟩ := ho
    refine .sl (b := g) (off := 0) (f := fun j => .int .i64 (cf (trun xs xs.length) j)) (by simp) (Nat.le_refl _) (by unfold maxLen; omega) ⟨h2, _, _, hg⟩ (Array.getElem?_eq_some_iff.1 hg).1 (fun j hj => ?_) fun j hj => ?_
    · have hj' : j < xs.length * 3 := by simpa using hj
      rw [Nat.zero_add, cellB hg j (v := .int .i64 (cf (trun xs xs.length) j)) (hcur j hj')]
    · simp only [List.getElem_map, List.getElem_range]
      exact .v _
theorem Evaluate_c {l : Ln} {n t f : Int} : Ctr Try.prog J 54 [.agg (cLn l), .agg (cSz n t f)] (.tup [iv (evN l.c l.n l.t l.f n t f), iv (evE l.c l.n l.t l.f n t f)]) := ctr2 fun w v v' _ h h' => by
  obtain ⟨vs, rfl, hl, hv⟩ := agg_cells h
  have e : vs = [.int .i64 l.c, .int .i64 l.n, .int .i64 l.t, .int .i64 l.f] := by
    rw [cells4 hl, (hv 0 (by simp [cLn])).v_inv, (hv 1 (by simp [cLn])).v_inv, (hv 2 (by simp [cLn])).v_inv, (hv 3 (by simp [cLn])).v_inv]
  subst e
  rw [sz_of h']
  exact (Evaluate_any l.c l.n l.t l.f n t f w).mono fun _ _ hh => ⟨_, hh.1, .tup rfl fun j hj => (match j, hj with
    | 0, _ => .v _
    | 1, _ => .v _), by first | exact hh.2 | (rw [← hh.2]; exact Below.refl _ _) | (rw [hh.2]; exact Below.refl _ _)⟩
/-- The errors of a size; how many processes there are. -/
def sysE (p : Fm) (n t f : Int) : Int := if valE p = 0 then (if admB p n t f = true then (if 8 < n then 4 else 0) else 8) else valE p
def cntE (p : Fm) (n f : Int) : Int := if p.fault = 3 then n - f else n
theorem adm_in {p : Fm} {n t f : Int} (h : admB p n t f = true) : 1 ≤ n ∧ n ≤ 1048576 ∧ 0 ≤ f ∧ f ≤ n := by
  unfold admB inB at h
  simp only [Bool.and_eq_true, decide_eq_true_eq] at h
  omega
theorem rulesE_all {q : Fm} : ∀ (f i : Nat), rulesE q i f = 0 → ∀ k, i ≤ k → k < i + f → ruleE q k (q.rules.getD k default) = 0
  | 0, i, _, k, a, b => absurd b (by omega)
  | f + 1, i, e, k, a, b => by
    unfold rulesE at e
    split at e
    · rename_i e1
      by_cases x : i = k
      · subst x; exact e1
      · exact rulesE_all f (i + 1) e k (by omega) (by omega)
    · exact absurd e (by assumption)
theorem val_lims {p : Fm} (h : valE p = 0) : p.rules.length ≤ 8 ∧ ∀ r ∈ p.rules, r.guards.length ≤ 2 := by
  unfold valE at h
  split at h
  · cases h
  split at h
  · cases h
  split at h
  · cases h
  split at h
  · cases h
  rename_i g
  split at h
  · cases h
  split at h
  · cases h
  split at h
  · cases h
  refine ⟨(too_rules (by simpa using g)).1, fun r hr => ?_⟩
  have a1 := orE_zero_left h
  have a2 := orE_zero_left a1.2
  have a3 := orE_zero_left a2.2
  obtain ⟨j, hj, rfl⟩ := List.getElem_of_mem hr
  have := rulesE_all _ _ a3.1 j (Nat.zero_le _) (by omega)
  rw [List.getD_eq_getElem?_getD, List.getElem?_eq_getElem hj, Option.getD_some] at this
  exact rule_guards this
theorem adm_c {p : Fm} {n t f : Int} (HP : FmOk p) (hv : valE p = 0) : Ctr Try.prog J 53 [.agg (cFm p), .agg (cSz n t f)] (bv (admB p n t f)) := by
  have := qAdmissible_c (J := J) HP n t f
  rw [decide_eq_true hv, Bool.true_and] at this
  exact this
def sysC (p : Fm) (n t f : Int) : List AV := cFm p ++ [iv n, iv t, iv f, iv (cntE p n f), iv (n - f), .any, .any, .any, .any, .any, .any, .any, .any, .any, .any, .any, .any, .any, .any, .any, .any, .any, .any]
theorem sys_big {p : Fm} {n t f : Int} (hv : valE p = 0) (ha : admB p n t f = true) (h : ¬ sysE p n t f = 0) : 8 < n := by
  unfold sysE at h
  rw [if_pos hv, if_pos ha] at h
  by_cases h8 : 8 < n
  · exact h8
  · rw [if_neg h8] at h; exact absurd rfl h
theorem sys_ok {p : Fm} {n t f : Int} (h : sysE p n t f = 0) : valE p = 0 ∧ admB p n t f = true ∧ ¬ 8 < n := by
  unfold sysE at h
  split at h
  · split at h
    · split at h
      · cases h
      · exact ⟨by assumption, by assumption, by assumption⟩
    · cases h
  · exact absurd h (by assumption)
theorem sys_e1 {p : Fm} {n t f : Int} (h : ¬ valE p = 0) : sysE p n t f = valE p := by unfold sysE; rw [if_neg h]
theorem sys_e2 {p : Fm} {n t f : Int} (h : valE p = 0) (h2 : admB p n t f = false) : sysE p n t f = 8 := by unfold sysE; rw [if_pos h, if_neg (by rw [h2]; simp)]
theorem sys_e3 {p : Fm} {n t f : Int} (h : valE p = 0) (h2 : admB p n t f = true) (h3 : 8 < n) : sysE p n t f = 4 := by unfold sysE; rw [if_pos h, if_pos h2, if_pos h3]
theorem sys_e4 {p : Fm} {n t f : Int} (h : valE p = 0) (h2 : admB p n t f = true) (h3 : ¬ 8 < n) : sysE p n t f = 0 := by unfold sysE; rw [if_pos h, if_pos h2, if_neg h3]
def mdE (p : Fm) (n t f : Int) : Int := if sysE p n t f = 0 then cntE p n f else 0
end Ns
end Go.Proofs.Ytgbgfkhkjlakbaa

namespace Go.Proofs.Ytgbgfkhkjlakbaa
open Go.RowKit Go.Deep
variable {J : World → Prop}
set_option linter.unusedSimpArgs false in
set_option linter.unusedVariables false in
set_option maxRecDepth 100000 in
set_option maxHeartbeats 6400000 in
theorem linksOf_row {top : Int} {c : Nat} (ht : top = 2 ∨ top = 3) (hc : c ≤ 8) : Ctr Try.prog J 43 [iv top, .v (.slice none 0 0), iv c] (.sl 3 c (Ns.lkZ top c c)) := by
 refine ctr_of_tri Try.func43 rfl (by intro X hX; simp only [List.mem_cons, List.not_mem_nil, or_false] at hX; rcases hX with rfl | rfl | rfl; exact .v _; exact .v _; exact .v _) (n := 33) rfl (by simp) (fun w0 => ?_)
 refine kW 33 [] [(0, iv top), (1, .v (.slice none 0 0)), (2, iv c)] ?_
 refine tri_seq ?_
 refine tri_region ?_
 refine oA (sp_assign (.const (.slice none 0 0)) (.v (.slice none 0 0)) rfl) I0 ?_
 refine kN 33 [] [(0, iv top), (1, .v (.slice none 0 0)), (2, iv c), (6, .v (.slice none 0 0))] ?_
 refine t_then ?_
 refine tri_seq ?_
 refine tri_seq ?_
 refine tri_region ?_
 refine oA (sp_move (.tmp 0) (iv top) rfl) I0 ?_
 refine kN 33 [] [(0, iv top), (1, .v (.slice none 0 0)), (2, iv c), (6, .v (.slice none 0 0)), (9, iv top)] ?_
 refine t_then ?_
 refine tri_block ?_
 refine tri_seq ?_
 refine tri_seq ?_
 by_cases hs1 : top = 2
 refine tri_region ?_
 refine oC (sp_eql rfl (dT hs1)) I0 I0 ?_
 refine oA (sp_assign (.tmp 11) (bv true) rfl) I0 ?_
 refine kN 33 [] [(0, iv top), (1, .v (.slice none 0 0)), (2, iv c), (6, .v (.slice none 0 0)), (9, iv top), (10, bv true)] ?_
 refine t_then ?_
 refine t_condT rfl ?_
 refine tri_skip ?_
 refine t_then ?_
 refine t_condT rfl ?_
 refine tri_seq ?_
 refine tri_region ?_
 refine oA (sp_move (.tmp 2) (iv c) rfl) I0 ?_
 refine t_op rfl (sp_makeZ (k := 1) (n := c) (bytes := 24) (z := 3) (zv := .agg #[.int .i64 0, .int .i64 0, .int .i64 0]) true rfl Try.underlying92 (by kernel_rfl) rfl (by decide) (by first | (show 24 * c ≤ _; omega) | omega) (by unfold maxLen; omega) (cs := (Ns.lkZ top c 0)) (Ns.lkZ_zero top c)) ⟨I0, I0, T0⟩ T0 rfl ?_
 refine oA (sp_assign (.tmp 14) (.own 1) rfl) I0 ?_
 refine kN 33 [(1, .row true 99 3 c (Ns.lkZ top c 0))] [(0, iv top), (2, iv c), (6, .v (.slice none 0 0)), (7, .own 1)] ?_
 refine t_then ?_
 refine tri_seq ?_
 refine tri_seq ?_
 refine tri_region ?_
 refine oA (sp_move (.tmp 7) (.own 1) rfl) I0 ?_
 refine oB (sp_lenOwn (.tmp 15) rfl Try.underlying92) I0 rfl ?_
 refine oA (sp_move (.const (.int .i64 0)) (iv 0) rfl) I0 ?_
 refine kN 33 [(1, .row true 99 3 c (Ns.lkZ top c 0))] [(0, iv top), (2, iv c), (6, .v (.slice none 0 0)), (7, .own 1), (16, iv c), (17, iv 0)] ?_
 refine t_then ?_
 refine tri_block ?_
 refine tri_loop (σ := {j : Nat // j ≤ c}) (fun s => (ofL [(1, .row true 99 3 c (Ns.lkZ top c s.1))], ofT 33 [(0, iv top), (2, iv c), (6, .v (.slice none 0 0)), (7, .own 1), (16, iv c), (17, iv s.1)])) (fun s => c - s.1) ⟨0, Nat.zero_le _⟩ (wk_keep _ _ rfl (by kernel_rfl) (by kernel_rfl)) (fun s => ?_)
 obtain ⟨j, hj0⟩ := s
 show ETri J w0 (ofL [(1, .row true 99 3 c (Ns.lkZ top c j))]) (ofT 33 [(0, iv top), (2, iv c), (6, .v (.slice none 0 0)), (7, .own 1), (16, iv c), (17, iv j)]) _
 refine tri_seq ?_
 by_cases hs2 : ((j : Nat) : Int) < ((c : Nat) : Int)
 refine tri_region ?_
 refine oC (sp_lss rfl (dT hs2)) I0 I0 ?_
 refine kN 33 [(1, .row true 99 3 c (Ns.lkZ top c j))] [(0, iv top), (2, iv c), (6, .v (.slice none 0 0)), (7, .own 1), (16, iv c), (17, iv j), (18, bv true)] ?_
 refine t_then ?_
 refine tri_seq ?_
 refine t_condT rfl ?_
 refine tri_skip ?_
 refine t_then ?_
 refine tri_seq ?_
 refine tri_block ?_
 refine tri_seq ?_
 refine tri_region ?_
 refine oA (sp_move (.tmp 17) (iv j) rfl) I0 ?_
 refine oA (sp_assign (.tmp 19) (iv j) rfl) I0 ?_
 refine kN 33 [(1, .row true 99 3 c (Ns.lkZ top c j))] [(0, iv top), (2, iv c), (6, .v (.slice none 0 0)), (7, .own 1), (8, iv j), (16, iv c), (17, iv j), (18, bv true)] ?_
 refine t_then ?_
 refine tri_region ?_
 refine oA (sp_move (.tmp 7) (.own 1) rfl) I0 ?_
 refine oA (sp_move (.tmp 8) (iv j) rfl) I0 ?_
 refine oA (sp_move (.tmp 0) (iv top) rfl) I0 ?_
 refine oA (sp_move (.tmp 2) (iv c) rfl) I0 ?_
 refine oA (sp_move (.tmp 8) (iv j) rfl) I0 ?_
 refine t_op rfl (sp_call (c := .func 50) (xs := #[.tmp 22, .tmp 23, .tmp 24]) [] (Ns.rowLink_c (by omega) (by omega) (by omega)) rfl (by kernel_rfl) rfl (Xs := [iv top, iv c, iv j]) rfl rfl rfl) ⟨I0, I0, I0, I0, T0⟩ T0 T0 ?_
 refine t_op rfl (sp_indexOwn (off := j * 3) (.tmp 20) (.tmp 21) rfl Try.underlying92 (by kernel_rfl) (by omega) (by omega) rfl) ⟨I0, I0, T0⟩ ⟨rfl, T0⟩ T0 ?_
 refine t_op rfl (sp_storeRow (X := .agg [iv ((rowL top ((c : Nat) : Int) (((j) : Nat) : Int)).1), iv ((rowL top ((c : Nat) : Int) (((j) : Nat) : Int)).2.1), iv ((rowL top ((c : Nat) : Int) (((j) : Nat) : Int)).2.2)]) (off := j * 3) (cs := (Ns.lkZ top c j)) (ds := (Ns.lkZ top c (j + 1))) (zz := 3) (.tmp 26) (.tmp 25) rfl (by kernel_rfl) (by kernel_rfl) (fun _ d hd => by simp only [AV.cellsOf, Ns.lk3, List.mem_cons, List.not_mem_nil, or_false] at hd; rcases hd with rfl | rfl | rfl <;> rfl) (by kernel_rfl) (by rw [Ns.lkZ_len (by omega)]; omega) (Ns.lkZ_step (by omega))) ⟨I0, .inr (.inr (.inl ⟨_, rfl, rfl⟩)), T0⟩ ⟨rfl, T0⟩ rfl ?_
 refine kN 33 [(1, .row true 99 3 c (Ns.lkZ top c (j + 1)))] [(0, iv top), (2, iv c), (6, .v (.slice none 0 0)), (7, .own 1), (8, iv j), (16, iv c), (17, iv j), (18, bv true)] ?_
 refine t_block ?_
 refine t_then ?_
 refine tri_region ?_
 refine oC (sp_add (c := ((j + 1 : Nat) : Int)) rfl (w64 (by omega) (by omega) (by omega))) I0 I0 ?_
 refine oA (sp_move (.tmp 27) (iv (j + 1 : Nat)) rfl) I0 ?_
 refine kN 33 [(1, .row true 99 3 c (Ns.lkZ top c (j + 1)))] [(0, iv top), (2, iv c), (6, .v (.slice none 0 0)), (7, .own 1), (8, iv j), (16, iv c), (17, iv (j + 1 : Nat)), (18, bv true)] ?_
 refine t_then ?_
 refine tri_again ⟨j + 1, by omega⟩ (show c - (j + 1) < c - j by omega) ?_
 exact wk_keep _ _ rfl (by kernel_rfl) (by kernel_rfl)
 refine tri_region ?_
 refine oC (sp_lss rfl (dF hs2)) I0 I0 ?_
 refine kN 33 [(1, .row true 99 3 c (Ns.lkZ top c j))] [(0, iv top), (2, iv c), (6, .v (.slice none 0 0)), (7, .own 1), (16, iv c), (17, iv j), (18, bv false)] ?_
 refine t_then ?_
 refine tri_seq ?_
 refine t_condF rfl ?_
 refine tri_exit ?_
 refine t_then_exit ?_
 refine t_then_exit ?_
 refine t_hit ?_
 refine t_then ?_
 refine tri_seq ?_
 refine tri_region ?_
 refine oA (sp_move (.tmp 7) (.own 1) rfl) I0 ?_
 refine oA (sp_assign (.tmp 28) (.own 1) rfl) I0 ?_
 refine kN 33 [(1, .row true 99 3 c (Ns.lkZ top c j))] [(6, .own 1)] ?_
 refine t_then ?_
 refine tri_ret ?_
 refine t_block_ret ?_
 refine t_then_ret ?_
 refine tri_end1 Try.results43 (.tmp rfl) ?_
 obtain rfl : j = c := by omega
 exact rfl
 refine tri_region ?_
 refine oC (sp_eql rfl (dF hs1)) I0 I0 ?_
 refine oA (sp_assign (.tmp 11) (bv false) rfl) I0 ?_
 refine kN 33 [] [(0, iv top), (1, .v (.slice none 0 0)), (2, iv c), (6, .v (.slice none 0 0)), (9, iv top), (10, bv false)] ?_
 refine t_then ?_
 refine t_condF rfl ?_
 refine tri_region ?_
 refine oC (sp_eql rfl (dT (by omega))) I0 I0 ?_
 refine oA (sp_assign (.tmp 12) (bv true) rfl) I0 ?_
 refine kN 33 [] [(0, iv top), (1, .v (.slice none 0 0)), (2, iv c), (6, .v (.slice none 0 0)), (9, iv top), (10, bv true)] ?_
 refine t_then ?_
 refine t_condT rfl ?_
 refine tri_seq ?_
 refine tri_region ?_
 refine oA (sp_move (.tmp 2) (iv c) rfl) I0 ?_
 refine t_op rfl (sp_makeZ (k := 1) (n := c) (bytes := 24) (z := 3) (zv := .agg #[.int .i64 0, .int .i64 0, .int .i64 0]) true rfl Try.underlying92 (by kernel_rfl) rfl (by decide) (by first | (show 24 * c ≤ _; omega) | omega) (by unfold maxLen; omega) (cs := (Ns.lkZ top c 0)) (Ns.lkZ_zero top c)) ⟨I0, I0, T0⟩ T0 rfl ?_
 refine oA (sp_assign (.tmp 14) (.own 1) rfl) I0 ?_
 refine kN 33 [(1, .row true 99 3 c (Ns.lkZ top c 0))] [(0, iv top), (2, iv c), (6, .v (.slice none 0 0)), (7, .own 1)] ?_
 refine t_then ?_
 refine tri_seq ?_
 refine tri_seq ?_
 refine tri_region ?_
 refine oA (sp_move (.tmp 7) (.own 1) rfl) I0 ?_
 refine oB (sp_lenOwn (.tmp 15) rfl Try.underlying92) I0 rfl ?_
 refine oA (sp_move (.const (.int .i64 0)) (iv 0) rfl) I0 ?_
 refine kN 33 [(1, .row true 99 3 c (Ns.lkZ top c 0))] [(0, iv top), (2, iv c), (6, .v (.slice none 0 0)), (7, .own 1), (16, iv c), (17, iv 0)] ?_
 refine t_then ?_
 refine tri_block ?_
 refine tri_loop (σ := {j : Nat // j ≤ c}) (fun s => (ofL [(1, .row true 99 3 c (Ns.lkZ top c s.1))], ofT 33 [(0, iv top), (2, iv c), (6, .v (.slice none 0 0)), (7, .own 1), (16, iv c), (17, iv s.1)])) (fun s => c - s.1) ⟨0, Nat.zero_le _⟩ (wk_keep _ _ rfl (by kernel_rfl) (by kernel_rfl)) (fun s => ?_)
 obtain ⟨j, hj0⟩ := s
 show ETri J w0 (ofL [(1, .row true 99 3 c (Ns.lkZ top c j))]) (ofT 33 [(0, iv top), (2, iv c), (6, .v (.slice none 0 0)), (7, .own 1), (16, iv c), (17, iv j)]) _
 refine tri_seq ?_
 by_cases hs3 : ((j : Nat) : Int) < ((c : Nat) : Int)
 refine tri_region ?_
 refine oC (sp_lss rfl (dT hs3)) I0 I0 ?_
 refine kN 33 [(1, .row true 99 3 c (Ns.lkZ top c j))] [(0, iv top), (2, iv c), (6, .v (.slice none 0 0)), (7, .own 1), (16, iv c), (17, iv j), (18, bv true)] ?_
 refine t_then ?_
 refine tri_seq ?_
 refine t_condT rfl ?_
 refine tri_skip ?_
 refine t_then ?_
 refine tri_seq ?_
 refine tri_block ?_
 refine tri_seq ?_
 refine tri_region ?_
 refine oA (sp_move (.tmp 17) (iv j) rfl) I0 ?_
 refine oA (sp_assign (.tmp 19) (iv j) rfl) I0 ?_
 refine kN 33 [(1, .row true 99 3 c (Ns.lkZ top c j))] [(0, iv top), (2, iv c), (6, .v (.slice none 0 0)), (7, .own 1), (8, iv j), (16, iv c), (17, iv j), (18, bv true)] ?_
 refine t_then ?_
 refine tri_region ?_
 refine oA (sp_move (.tmp 7) (.own 1) rfl) I0 ?_
 refine oA (sp_move (.tmp 8) (iv j) rfl) I0 ?_
 refine oA (sp_move (.tmp 0) (iv top) rfl) I0 ?_
 refine oA (sp_move (.tmp 2) (iv c) rfl) I0 ?_
 refine oA (sp_move (.tmp 8) (iv j) rfl) I0 ?_
 refine t_op rfl (sp_call (c := .func 50) (xs := #[.tmp 22, .tmp 23, .tmp 24]) [] (Ns.rowLink_c (by omega) (by omega) (by omega)) rfl (by kernel_rfl) rfl (Xs := [iv top, iv c, iv j]) rfl rfl rfl) ⟨I0, I0, I0, I0, T0⟩ T0 T0 ?_
 refine t_op rfl (sp_indexOwn (off := j * 3) (.tmp 20) (.tmp 21) rfl Try.underlying92 (by kernel_rfl) (by omega) (by omega) rfl) ⟨I0, I0, T0⟩ ⟨rfl, T0⟩ T0 ?_
 refine t_op rfl (sp_storeRow (X := .agg [iv ((rowL top ((c : Nat) : Int) (((j) : Nat) : Int)).1), iv ((rowL top ((c : Nat) : Int) (((j) : Nat) : Int)).2.1), iv ((rowL top ((c : Nat) : Int) (((j) : Nat) : Int)).2.2)]) (off := j * 3) (cs := (Ns.lkZ top c j)) (ds := (Ns.lkZ top c (j + 1))) (zz := 3) (.tmp 26) (.tmp 25) rfl (by kernel_rfl) (by kernel_rfl) (fun _ d hd => by simp only [AV.cellsOf, Ns.lk3, List.mem_cons, List.not_mem_nil, or_false] at hd; rcases hd with rfl | rfl | rfl <;> rfl) (by kernel_rfl) (by rw [Ns.lkZ_len (by omega)]; omega) (Ns.lkZ_step (by omega))) ⟨I0, .inr (.inr (.inl ⟨_, rfl, rfl⟩)), T0⟩ ⟨rfl, T0⟩ rfl ?_
 refine kN 33 [(1, .row true 99 3 c (Ns.lkZ top c (j + 1)))] [(0, iv top), (2, iv c), (6, .v (.slice none 0 0)), (7, .own 1), (8, iv j), (16, iv c), (17, iv j), (18, bv true)] ?_
 refine t_block ?_
 refine t_then ?_
 refine tri_region ?_
 refine oC (sp_add (c := ((j + 1 : Nat) : Int)) rfl (w64 (by omega) (by omega) (by omega))) I0 I0 ?_
 refine oA (sp_move (.tmp 27) (iv (j + 1 : Nat)) rfl) I0 ?_
 refine kN 33 [(1, .row true 99 3 c (Ns.lkZ top c (j + 1)))] [(0, iv top), (2, iv c), (6, .v (.slice none 0 0)), (7, .own 1), (8, iv j), (16, iv c), (17, iv (j + 1 : Nat)), (18, bv true)] ?_
 refine t_then ?_
 refine tri_again ⟨j + 1, by omega⟩ (show c - (j + 1) < c - j by omega) ?_
 exact wk_keep _ _ rfl (by kernel_rfl) (by kernel_rfl)
 refine tri_region ?_
 refine oC (sp_lss rfl (dF hs3)) I0 I0 ?_
 refine kN 33 [(1, .row true 99 3 c (Ns.lkZ top c j))] [(0, iv top), (2, iv c), (6, .v (.slice none 0 0)), (7, .own 1), (16, iv c), (17, iv j), (18, bv false)] ?_
 refine t_then ?_
 refine tri_seq ?_
 refine t_condF rfl ?_
 refine tri_exit ?_
 refine t_then_exit ?_
 refine t_then_exit ?_
 refine t_hit ?_
 refine t_then ?_
 refine tri_seq ?_
 refine tri_region ?_
 refine oA (sp_move (.tmp 7) (.own 1) rfl) I0 ?_
 refine oA (sp_assign (.tmp 28) (.own 1) rfl) I0 ?_
 refine kN 33 [(1, .row true 99 3 c (Ns.lkZ top c j))] [(6, .own 1)] ?_
 refine t_then ?_
 refine tri_ret ?_
 refine t_block_ret ?_
 refine t_then_ret ?_
 refine tri_end1 Try.results43 (.tmp rfl) ?_
 obtain rfl : j = c := by omega
 exact rfl
set_option linter.unusedSimpArgs false in
set_option linter.unusedVariables false in
set_option maxRecDepth 100000 in
set_option maxHeartbeats 6400000 in
theorem linksOf_tree {xs : List Int} {c : Int} (hI : InOk xs) (h0 : 0 < xs.length) (h1 : xs.length ≤ 100) : Ctr Try.prog J 43 [iv 4, intsA xs, iv c] (Ns.lkT xs) := by
 refine ctr_of_tri Try.func43 rfl (by intro X hX; simp only [List.mem_cons, List.not_mem_nil, or_false] at hX; rcases hX with rfl | rfl | rfl; exact .v _; exact plain_ints _; exact .v _) (n := 33) rfl (by simp) (fun w0 => ?_)
 refine kW 33 [] [(0, iv 4), (1, intsA xs), (2, iv c)] ?_
 refine tri_seq ?_
 refine tri_region ?_
 refine oA (sp_assign (.const (.slice none 0 0)) (.v (.slice none 0 0)) rfl) I0 ?_
 refine kN 33 [] [(0, iv 4), (1, intsA xs), (2, iv c), (6, .v (.slice none 0 0))] ?_
 refine t_then ?_
 refine tri_seq ?_
 refine tri_seq ?_
 refine tri_region ?_
 refine oA (sp_move (.tmp 0) (iv 4) rfl) I0 ?_
 refine kN 33 [] [(0, iv 4), (1, intsA xs), (2, iv c), (6, .v (.slice none 0 0)), (9, iv 4)] ?_
 refine t_then ?_
 refine tri_block ?_
 refine tri_seq ?_
 refine tri_seq ?_
 refine tri_region ?_
 refine oC (sp_eql (r := false) rfl (by decide)) I0 I0 ?_
 refine oA (sp_assign (.tmp 11) (bv false) rfl) I0 ?_
 refine kN 33 [] [(0, iv 4), (1, intsA xs), (2, iv c), (6, .v (.slice none 0 0)), (9, iv 4), (10, bv false)] ?_
 refine t_then ?_
 refine t_condF rfl ?_
 refine tri_region ?_
 refine oC (sp_eql (r := false) rfl (by decide)) I0 I0 ?_
 refine oA (sp_assign (.tmp 12) (bv false) rfl) I0 ?_
 refine kN 33 [] [(0, iv 4), (1, intsA xs), (2, iv c), (6, .v (.slice none 0 0)), (9, iv 4), (10, bv false)] ?_
 refine t_then ?_
 refine t_condF rfl ?_
 refine tri_seq ?_
 refine tri_region ?_
 refine oC (sp_eql (r := true) rfl (by decide)) I0 I0 ?_
 refine oA (sp_assign (.tmp 30) (bv true) rfl) I0 ?_
 refine kN 33 [] [(1, intsA xs), (6, .v (.slice none 0 0)), (29, bv true)] ?_
 refine t_then ?_
 refine t_condT rfl ?_
 refine tri_seq ?_
 refine tri_region ?_
 refine oA (sp_move (.tmp 1) (intsA xs) rfl) I0 ?_
 refine oC (sp_call (c := .func 51) (xs := #[.tmp 31]) [] (Ns.treeLinks_c hI h0 h1) rfl (by kernel_rfl) rfl (Xs := [intsA xs]) rfl rfl rfl) I0 I0 ?_
 refine oA (sp_assign (.tmp 32) (.fr (Ns.lkT xs)) rfl) I0 ?_
 refine kN 33 [] [(6, .fr (Ns.lkT xs))] ?_
 refine t_then ?_
 refine tri_ret ?_
 refine t_block_ret ?_
 refine t_then_ret ?_
 refine tri_end1 Try.results43 (.tmp rfl) ?_
 exact rfl
end Go.Proofs.Ytgbgfkhkjlakbaa
