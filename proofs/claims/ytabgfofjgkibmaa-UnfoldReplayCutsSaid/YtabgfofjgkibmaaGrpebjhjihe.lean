import Derived.Test.YtabgfofjgkibmaaGrpogcpmjic
import Derived.Test.YtabgfofjgkibmaaGrpgbeabghn
import Derived.Test.YtabgfofjgkibmaaGrpihbhnjka
import Derived.Test.YtabgfofjgkibmaaGrpnnocpcek
import Derived.Test.YtabgfofjgkibmaaGrpodgfjebp
import Derived.Test.YtabgfofjgkibmaaGrpeoaaomih
import Derived.Test.YtabgfofjgkibmaaGrplmbciild
set_option linter.all false
namespace Go.Proofs.Ytabgfofjgkibmaa
open Go.RowKit Go.Deep Go.ChangeShapes Go.WideShapes Go.ChangeAt Go.Joins
theorem cells_at:Try.prog.cellsOf 33=19:=by kernel_rfl
def IsAt (w:World) (v:Value) (q:Fm) (n t f:Int) (c:Cf):Prop :=
  ∃ fs cs:List Value,v = .agg (fs++([Value.int .i64 n,Value.int .i64 t,Value.int .i64 f]++cs)).toArray∧IsFam 0 w (.agg fs.toArray) q∧IsCf 0 w (.agg cs.toArray) c
set_option maxRecDepth 100000 in
theorem at_of_trod {H:Type} {enc:TypeId × Value→H} {w:World} {base:Nat} {sp:Nat→Bool} {n:Nat} {cs:List Value} {x:DataW H × List MemPlace} (h:DataW.trod enc Try.prog w base sp true n 33 cs=some x) :
    ∃ q a b d c,IsAt w (.agg cs.toArray) q a b d c:=by
  obtain ⟨ys,m,_,_,hlen,_,hf⟩:=DataW.trod_struct Try.underlying33 h
  rw [cells_at] at hlen
  have h0:DataW.trod enc Try.prog w base sp true m 27 ((cs.drop 0).take (Try.prog.cellsOf 27))=ys[0]? := hf 0 _ rfl
  rw [cells_famE] at h0
  have h1:DataW.trod enc Try.prog w base sp true m 29 ((cs.drop 10).take (Try.prog.cellsOf 29))=ys[1]? := hf 1 _ rfl
  rw [cells_size] at h1
  have h2:DataW.trod enc Try.prog w base sp true m 31 ((cs.drop 13).take (Try.prog.cellsOf 31))=ys[2]? := hf 2 _ rfl
  rw [cells_cfg] at h2
  have hx:∀ i,i<3→∃ y,ys[i]? = some y:=fun i hi=>⟨ys[i]'(by simp at *;omega),List.getElem?_eq_getElem _⟩
  obtain ⟨y0,e0⟩:=hx 0 (by omega)
  rw [e0] at h0
  obtain ⟨v,q,rfl,hq⟩:=fam_of_trod h0
  obtain ⟨y1,e1⟩:=hx 1 (by omega)
  rw [e1] at h1
  obtain ⟨c0,c1,c2,s1,_,_,_⟩:=size_of_trod h1
  obtain ⟨y2,e2⟩:=hx 2 (by omega)
  rw [e2] at h2
  obtain ⟨u0,xs0,u1,xs1,g2,u3,xs3,u4,xs4,g5,s2,q0,q1,q2,q3,q4,q5⟩:=cfg_of_trod h2
  refine ⟨q,c0,c1,c2,⟨xs0,xs1,g2,xs3,xs4,g5⟩,cs.take 10,(cs.drop 13).take 6,?_,?_,?_⟩
  · rw [← s1]
    have d:(cs.drop 13).take 6=cs.drop 13:=List.take_of_length_le (by rw [List.length_drop,hlen];decide)
    rw [d,show cs.drop 13=(cs.drop 10).drop 3 by rw [List.drop_drop],List.take_append_drop,List.take_append_drop]
  · simpa using hq
  exact ⟨u0,u1,u3,u4,by rw [s2],q0,q1,q2,q3,q4,q5⟩
set_option maxRecDepth 100000 in
theorem arg_at {H:Type} {enc:TypeId × Value→H} {w:World} {r:Reach} {b0:Nat} {v:Value} {d:DataW H} {p:List MemPlace} (hv:Value.okWide Try.prog w r b0 33 v) (h:DataW.Trod enc Try.prog w 0 (fun _=>true) true 33 v d p) :
    ∃ q a b d c,IsAt w v q a b d c:=by
  obtain ⟨cs,rfl,_⟩:=okWide_struct Try.underlying33 hv
  obtain ⟨fuel,hf⟩:=h
  obtain ⟨q,a,b,d,c,hq⟩:=at_of_trod hf
  exact ⟨q,a,b,d,c,by simpa [Value.cells] using hq⟩
end Go.Proofs.Ytabgfofjgkibmaa
namespace Go.Proofs.Ytabgfofjgkibmaa
open Go.RowKit Go.Deep
set_option maxHeartbeats 12800000
def wideCf (q:Cf):Bool:=decide (100<q.sh.length)||decide (100<q.st.length)||decide (100<q.se.length)||decide (100<q.fa.length)
theorem Wide_any {lo:Nat} {w:World} {v:Value} {q:Cf} (h:IsCf lo w v q) :
    Calls Try.prog 5 #[v] w fun e w'=>e = .returned (.bool (wideCf q))∧Below w.heap.size w w':=by
  obtain ⟨u0,u1,u3,u4,rfl,h0,h1,_,h3,h4,_⟩:=h
  have E:Hid (wideCf q=(decide (100<q.sh.length)||decide (100<q.st.length)||decide (100<q.se.length)||decide (100<q.fa.length))):=(rfl:wideCf q=_)
  have l0:q.sh.length≤9223372036854775807:=by obtain ⟨_,_,_,hh,hm,_⟩:=h0;unfold maxLen at hm;omega
  obtain ⟨a0,c0,rfl⟩:=h0.shape
  have l1:q.st.length≤9223372036854775807:=by obtain ⟨_,_,_,hh,hm,_⟩:=h1;unfold maxLen at hm;omega
  obtain ⟨a1,c1,rfl⟩:=h1.shape
  have l3:q.se.length≤9223372036854775807:=by obtain ⟨_,_,_,hh,hm,_⟩:=h3;unfold maxLen at hm;omega
  obtain ⟨a3,c3,rfl⟩:=h3.shape
  have l4:q.fa.length≤9223372036854775807:=by obtain ⟨_,_,_,hh,hm,_⟩:=h4;unfold maxLen at hm;omega
  obtain ⟨a4,c4,rfl⟩:=h4.shape
  clear h0 h1 h3 h4
  by_cases t0:100<q.sh.length
  · have i0:(100:Int)<((q.sh.length:Nat):Int):=by omega
    go_enter Try.func5,Try.ntmps5
    go_wp2_with fail
    go_ret
    exact ⟨Zi (by rw [E.out,decide_eq_true t0];simp),Zf _ _⟩
  have i0:¬ (100:Int)<((q.sh.length:Nat):Int):=by omega
  by_cases t1:100<q.st.length
  · have i1:(100:Int)<((q.st.length:Nat):Int):=by omega
    go_enter Try.func5,Try.ntmps5
    go_wp2_with fail
    go_ret
    exact ⟨Zi (by rw [E.out,decide_eq_true t1];simp),Zf _ _⟩
  have i1:¬ (100:Int)<((q.st.length:Nat):Int):=by omega
  by_cases t3:100<q.se.length
  · have i3:(100:Int)<((q.se.length:Nat):Int):=by omega
    go_enter Try.func5,Try.ntmps5
    go_wp2_with fail
    go_ret
    exact ⟨Zi (by rw [E.out,decide_eq_true t3];simp),Zf _ _⟩
  have i3:¬ (100:Int)<((q.se.length:Nat):Int):=by omega
  by_cases t4:100<q.fa.length
  · have i4:(100:Int)<((q.fa.length:Nat):Int):=by omega
    go_enter Try.func5,Try.ntmps5
    go_wp2_with fail
    go_ret
    exact ⟨Zi (by rw [E.out,decide_eq_true t4];simp),Zf _ _⟩
  have i4:¬ (100:Int)<((q.fa.length:Nat):Int):=by omega
  go_enter Try.func5,Try.ntmps5
  go_wp2_with fail
  go_ret
  exact ⟨Zi (by rw [E.out,decide_eq_false t0,decide_eq_false t1,decide_eq_false t3,decide_eq_false t4];simp),Zf _ _⟩
theorem cmpI_two (a d b x:Int):cmpI [a,d] [b,x]=orL [cmpN a b,cmpN d x]:=by
  unfold cmpN
  simp only [cmpI,orL]
  repeat' split
  all_goals first | rfl | omega | simp_all
theorem two_ints {w:World} {b:Nat} {t:TypeId} {x y:Int} (hg:w.heap[b]? = some (.cells #[.int .i64 x,.int .i64 y] t (0,0))) (h:I64 x∧I64 y) :
    IsInts 0 w (.slice (some ⟨b,0,none⟩) 2 2) [x,y] :=
  Y5 (xs:=[x,y]) hg (Nat.zero_le _) rfl (Nat.le_refl _) (by unfold maxLen;omega) (fun u hu=>by simp at hu;exact hu.elim (fun e=>e ▸ h.1) fun e=>e ▸ h.2) fun i hi=>by
    match i,hi with
    | 0,_=>rfl
    | 1,_=>rfl
theorem rcfCompare_any {lo lo':Nat} {w:World} {v v':Value} {p q:Cf} (h:IsCf lo w v p) (h':IsCf lo' w v' q) :
    Calls Try.prog 20 #[v,v'] w fun e w'=>e = .returned (.int .i64 (cmpCf p q))∧Below w.heap.size w w':=by
  obtain ⟨u0,u1,u3,u4,rfl,h0,h1,g2,h3,h4,g5⟩:=h
  obtain ⟨v0,v1,v3,v4,rfl,k0,k1,l2,k3,k4,l5⟩:=h'
  obtain ⟨a0,c0,rfl⟩:=h0.shape
  obtain ⟨b0,d0,rfl⟩:=k0.shape
  have H0:=Lib.hid h0
  have K0:=Lib.hid k0
  obtain ⟨a1,c1,rfl⟩:=h1.shape
  obtain ⟨b1,d1,rfl⟩:=k1.shape
  have H1:=Lib.hid h1
  have K1:=Lib.hid k1
  obtain ⟨a3,c3,rfl⟩:=h3.shape
  obtain ⟨b3,d3,rfl⟩:=k3.shape
  have H3:=Lib.hid h3
  have K3:=Lib.hid k3
  obtain ⟨a4,c4,rfl⟩:=h4.shape
  obtain ⟨b4,d4,rfl⟩:=k4.shape
  have H4:=Lib.hid h4
  have K4:=Lib.hid k4
  have G:=Lib.hid (And.intro g2 g5)
  have G':=Lib.hid (And.intro l2 l5)
  clear h0 h1 h3 h4 k0 k1 k3 k4 g2 g5 l2 l5
  have E:Hid (cmpCf p q=orL [cmpI p.sh q.sh,cmpI p.st q.st,cmpI p.se q.se,cmpI p.fa q.fa,cmpN p.cor q.cor,cmpN p.val q.val]):=(rfl:cmpCf p q=_)
  obtain ⟨e0,j0⟩:∃ e,e=cmpI p.sh q.sh:=⟨_,rfl⟩
  rw [← j0] at E
  have J0:=Lib.hid j0
  obtain ⟨e1,j1⟩:∃ e,e=cmpI p.st q.st:=⟨_,rfl⟩
  rw [← j1] at E
  have J1:=Lib.hid j1
  obtain ⟨e2,j2⟩:∃ e,e=cmpI p.se q.se:=⟨_,rfl⟩
  rw [← j2] at E
  have J2:=Lib.hid j2
  obtain ⟨e3,j3⟩:∃ e,e=cmpI p.fa q.fa:=⟨_,rfl⟩
  rw [← j3] at E
  have J3:=Lib.hid j3
  clear j0 j1 j2 j3
  have C0:Hid (∀ w':World,Below w.heap.size w w'→Calls Try.prog 29 #[.slice a0 p.sh.length c0,.slice b0 q.sh.length d0] w' fun e w''=>e = .returned (.int .i64 e0)∧Below w'.heap.size w' w''):=fun w' hb=>by
    have h:=Ka (H0.out.below hb) (K0.out.below hb)
    rw [← J0.out] at h
    exact h
  have C1:Hid (∀ w':World,Below w.heap.size w w'→Calls Try.prog 29 #[.slice a1 p.st.length c1,.slice b1 q.st.length d1] w' fun e w''=>e = .returned (.int .i64 e1)∧Below w'.heap.size w' w''):=fun w' hb=>by
    have h:=Ka (H1.out.below hb) (K1.out.below hb)
    rw [← J1.out] at h
    exact h
  have C2:Hid (∀ w':World,Below w.heap.size w w'→Calls Try.prog 29 #[.slice a3 p.se.length c3,.slice b3 q.se.length d3] w' fun e w''=>e = .returned (.int .i64 e2)∧Below w'.heap.size w' w''):=fun w' hb=>by
    have h:=Ka (H3.out.below hb) (K3.out.below hb)
    rw [← J2.out] at h
    exact h
  have C3:Hid (∀ w':World,Below w.heap.size w w'→Calls Try.prog 29 #[.slice a4 p.fa.length c4,.slice b4 q.fa.length d4] w' fun e w''=>e = .returned (.int .i64 e3)∧Below w'.heap.size w' w''):=fun w' hb=>by
    have h:=Ka (H4.out.below hb) (K4.out.below hb)
    rw [← J3.out] at h
    exact h
  by_cases z0:e0=0
  · subst z0
    by_cases z1:e1=0
    · subst z1
      by_cases z2:e2=0
      · subst z2
        by_cases z3:e3=0
        · subst z3
          go_enter Try.func20,Try.ntmps20
          go_wp2_with fail
          obtain ⟨W,hW⟩:∃ W,W=(w.alloc (.cells #[.slice a0 p.sh.length c0,.slice a1 p.st.length c1,.int .i64 p.cor,.slice a3 p.se.length c3,.slice a4 p.fa.length c4,.int .i64 p.val] 31)).alloc (.cells #[.slice b0 q.sh.length d0,.slice b1 q.st.length d1,.int .i64 q.cor,.slice b3 q.se.length d3,.slice b4 q.fa.length d4,.int .i64 q.val] 31):=⟨_,rfl⟩
          rw [← hW]
          have HB:=Lib.hid (show Below w.heap.size w W by rw [hW];show Below _ _ _;go_grown)
          have x0:W.cell? ⟨w.heap.size,0,none⟩=some (.slice a0 p.sh.length c0):=by rw [hW];exact keep1 ((Zh w _ _ 0 rfl).trans rfl) (Zf _ _)
          have y0:W.cell? ⟨w.heap.size+1,0,none⟩=some (.slice b0 q.sh.length d0):=by rw [hW];exact (Zh _ _ _ 0 (by simp)).trans rfl
          have x1:W.cell? ⟨w.heap.size,1,none⟩=some (.slice a1 p.st.length c1):=by rw [hW];exact keep1 ((Zh w _ _ 1 rfl).trans rfl) (Zf _ _)
          have y1:W.cell? ⟨w.heap.size+1,1,none⟩=some (.slice b1 q.st.length d1):=by rw [hW];exact (Zh _ _ _ 1 (by simp)).trans rfl
          have x2:W.cell? ⟨w.heap.size,2,none⟩=some (.int .i64 p.cor):=by rw [hW];exact keep1 ((Zh w _ _ 2 rfl).trans rfl) (Zf _ _)
          have y2:W.cell? ⟨w.heap.size+1,2,none⟩=some (.int .i64 q.cor):=by rw [hW];exact (Zh _ _ _ 2 (by simp)).trans rfl
          have x3:W.cell? ⟨w.heap.size,3,none⟩=some (.slice a3 p.se.length c3):=by rw [hW];exact keep1 ((Zh w _ _ 3 rfl).trans rfl) (Zf _ _)
          have y3:W.cell? ⟨w.heap.size+1,3,none⟩=some (.slice b3 q.se.length d3):=by rw [hW];exact (Zh _ _ _ 3 (by simp)).trans rfl
          have x4:W.cell? ⟨w.heap.size,4,none⟩=some (.slice a4 p.fa.length c4):=by rw [hW];exact keep1 ((Zh w _ _ 4 rfl).trans rfl) (Zf _ _)
          have y4:W.cell? ⟨w.heap.size+1,4,none⟩=some (.slice b4 q.fa.length d4):=by rw [hW];exact (Zh _ _ _ 4 (by simp)).trans rfl
          have x5:W.cell? ⟨w.heap.size,5,none⟩=some (.int .i64 p.val):=by rw [hW];exact keep1 ((Zh w _ _ 5 rfl).trans rfl) (Zf _ _)
          have y5:W.cell? ⟨w.heap.size+1,5,none⟩=some (.int .i64 q.val):=by rw [hW];exact (Zh _ _ _ 5 (by simp)).trans rfl
          clear hW
          refine (C0.out _ HB.out).mono ?_
          rintro e w0 ⟨rfl,hb0⟩
          have HB0:=Lib.hid (Zg HB.out hb0)
          replace x0:=keep1 x0 hb0
          replace y0:=keep1 y0 hb0
          replace x1:=keep1 x1 hb0
          replace y1:=keep1 y1 hb0
          replace x2:=keep1 x2 hb0
          replace y2:=keep1 y2 hb0
          replace x3:=keep1 x3 hb0
          replace y3:=keep1 y3 hb0
          replace x4:=keep1 x4 hb0
          replace y4:=keep1 y4 hb0
          replace x5:=keep1 x5 hb0
          replace y5:=keep1 y5 hb0
          clear hb0
          go_wp2_with fail
          refine (C1.out _ HB0.out).mono ?_
          rintro e w1 ⟨rfl,hb1⟩
          have HB1:=Lib.hid (Zg HB0.out hb1)
          replace x0:=keep1 x0 hb1
          replace y0:=keep1 y0 hb1
          replace x1:=keep1 x1 hb1
          replace y1:=keep1 y1 hb1
          replace x2:=keep1 x2 hb1
          replace y2:=keep1 y2 hb1
          replace x3:=keep1 x3 hb1
          replace y3:=keep1 y3 hb1
          replace x4:=keep1 x4 hb1
          replace y4:=keep1 y4 hb1
          replace x5:=keep1 x5 hb1
          replace y5:=keep1 y5 hb1
          clear hb1
          go_wp2_with fail
          refine (C2.out _ HB1.out).mono ?_
          rintro e w2 ⟨rfl,hb2⟩
          have HB2:=Lib.hid (Zg HB1.out hb2)
          replace x0:=keep1 x0 hb2
          replace y0:=keep1 y0 hb2
          replace x1:=keep1 x1 hb2
          replace y1:=keep1 y1 hb2
          replace x2:=keep1 x2 hb2
          replace y2:=keep1 y2 hb2
          replace x3:=keep1 x3 hb2
          replace y3:=keep1 y3 hb2
          replace x4:=keep1 x4 hb2
          replace y4:=keep1 y4 hb2
          replace x5:=keep1 x5 hb2
          replace y5:=keep1 y5 hb2
          clear hb2
          go_wp2_with fail
          refine (C3.out _ HB2.out).mono ?_
          rintro e w3 ⟨rfl,hb3⟩
          have HB3:=Lib.hid (Zg HB2.out hb3)
          replace x0:=keep1 x0 hb3
          replace y0:=keep1 y0 hb3
          replace x1:=keep1 x1 hb3
          replace y1:=keep1 y1 hb3
          replace x2:=keep1 x2 hb3
          replace y2:=keep1 y2 hb3
          replace x3:=keep1 x3 hb3
          replace y3:=keep1 y3 hb3
          replace x4:=keep1 x4 hb3
          replace y4:=keep1 y4 hb3
          replace x5:=keep1 x5 hb3
          replace y5:=keep1 y5 hb3
          clear hb3
          have hz3:w.heap.size+1<w3.heap.size:=cell_lt y2
          have hz4:w.heap.size<w3.heap.size:=cell_lt x2
          go_wp2_with (go_at_call 29;refine (Ka (two_ints ((heap_old _ _ (by go_size)).trans (Z6 _ _ (by go_size))) G.out) (two_ints (Z6 _ _ (by go_size)) G'.out)).mono ?_;rintro e w5 ⟨rfl,hb5⟩)
          go_ret
          exact ⟨Zt (by rw [E.out,cmpI_two];simp only [orL,if_pos]),Zg HB3.out (Below.trans (by go_grown) (hb5.mono (by go_size)))⟩
        have zz3:(e3 != 0)=true:=by simpa using z3
        have N:=Lib.hid z3
        clear z3
        go_enter Try.func20,Try.ntmps20
        go_wp2_with fail
        obtain ⟨W,hW⟩:∃ W,W=(w.alloc (.cells #[.slice a0 p.sh.length c0,.slice a1 p.st.length c1,.int .i64 p.cor,.slice a3 p.se.length c3,.slice a4 p.fa.length c4,.int .i64 p.val] 31)).alloc (.cells #[.slice b0 q.sh.length d0,.slice b1 q.st.length d1,.int .i64 q.cor,.slice b3 q.se.length d3,.slice b4 q.fa.length d4,.int .i64 q.val] 31):=⟨_,rfl⟩
        rw [← hW]
        have HB:=Lib.hid (show Below w.heap.size w W by rw [hW];show Below _ _ _;go_grown)
        have x0:W.cell? ⟨w.heap.size,0,none⟩=some (.slice a0 p.sh.length c0):=by rw [hW];exact keep1 ((Zh w _ _ 0 rfl).trans rfl) (Zf _ _)
        have y0:W.cell? ⟨w.heap.size+1,0,none⟩=some (.slice b0 q.sh.length d0):=by rw [hW];exact (Zh _ _ _ 0 (by simp)).trans rfl
        have x1:W.cell? ⟨w.heap.size,1,none⟩=some (.slice a1 p.st.length c1):=by rw [hW];exact keep1 ((Zh w _ _ 1 rfl).trans rfl) (Zf _ _)
        have y1:W.cell? ⟨w.heap.size+1,1,none⟩=some (.slice b1 q.st.length d1):=by rw [hW];exact (Zh _ _ _ 1 (by simp)).trans rfl
        have x2:W.cell? ⟨w.heap.size,2,none⟩=some (.int .i64 p.cor):=by rw [hW];exact keep1 ((Zh w _ _ 2 rfl).trans rfl) (Zf _ _)
        have y2:W.cell? ⟨w.heap.size+1,2,none⟩=some (.int .i64 q.cor):=by rw [hW];exact (Zh _ _ _ 2 (by simp)).trans rfl
        have x3:W.cell? ⟨w.heap.size,3,none⟩=some (.slice a3 p.se.length c3):=by rw [hW];exact keep1 ((Zh w _ _ 3 rfl).trans rfl) (Zf _ _)
        have y3:W.cell? ⟨w.heap.size+1,3,none⟩=some (.slice b3 q.se.length d3):=by rw [hW];exact (Zh _ _ _ 3 (by simp)).trans rfl
        have x4:W.cell? ⟨w.heap.size,4,none⟩=some (.slice a4 p.fa.length c4):=by rw [hW];exact keep1 ((Zh w _ _ 4 rfl).trans rfl) (Zf _ _)
        have y4:W.cell? ⟨w.heap.size+1,4,none⟩=some (.slice b4 q.fa.length d4):=by rw [hW];exact (Zh _ _ _ 4 (by simp)).trans rfl
        have x5:W.cell? ⟨w.heap.size,5,none⟩=some (.int .i64 p.val):=by rw [hW];exact keep1 ((Zh w _ _ 5 rfl).trans rfl) (Zf _ _)
        have y5:W.cell? ⟨w.heap.size+1,5,none⟩=some (.int .i64 q.val):=by rw [hW];exact (Zh _ _ _ 5 (by simp)).trans rfl
        clear hW
        refine (C0.out _ HB.out).mono ?_
        rintro e w0 ⟨rfl,hb0⟩
        have HB0:=Lib.hid (Zg HB.out hb0)
        replace x0:=keep1 x0 hb0
        replace y0:=keep1 y0 hb0
        replace x1:=keep1 x1 hb0
        replace y1:=keep1 y1 hb0
        replace x2:=keep1 x2 hb0
        replace y2:=keep1 y2 hb0
        replace x3:=keep1 x3 hb0
        replace y3:=keep1 y3 hb0
        replace x4:=keep1 x4 hb0
        replace y4:=keep1 y4 hb0
        replace x5:=keep1 x5 hb0
        replace y5:=keep1 y5 hb0
        clear hb0
        go_wp2_with fail
        refine (C1.out _ HB0.out).mono ?_
        rintro e w1 ⟨rfl,hb1⟩
        have HB1:=Lib.hid (Zg HB0.out hb1)
        replace x0:=keep1 x0 hb1
        replace y0:=keep1 y0 hb1
        replace x1:=keep1 x1 hb1
        replace y1:=keep1 y1 hb1
        replace x2:=keep1 x2 hb1
        replace y2:=keep1 y2 hb1
        replace x3:=keep1 x3 hb1
        replace y3:=keep1 y3 hb1
        replace x4:=keep1 x4 hb1
        replace y4:=keep1 y4 hb1
        replace x5:=keep1 x5 hb1
        replace y5:=keep1 y5 hb1
        clear hb1
        go_wp2_with fail
        refine (C2.out _ HB1.out).mono ?_
        rintro e w2 ⟨rfl,hb2⟩
        have HB2:=Lib.hid (Zg HB1.out hb2)
        replace x0:=keep1 x0 hb2
        replace y0:=keep1 y0 hb2
        replace x1:=keep1 x1 hb2
        replace y1:=keep1 y1 hb2
        replace x2:=keep1 x2 hb2
        replace y2:=keep1 y2 hb2
        replace x3:=keep1 x3 hb2
        replace y3:=keep1 y3 hb2
        replace x4:=keep1 x4 hb2
        replace y4:=keep1 y4 hb2
        replace x5:=keep1 x5 hb2
        replace y5:=keep1 y5 hb2
        clear hb2
        go_wp2_with fail
        refine (C3.out _ HB2.out).mono ?_
        rintro e w3 ⟨rfl,hb3⟩
        have HB3:=Lib.hid (Zg HB2.out hb3)
        replace x0:=keep1 x0 hb3
        replace y0:=keep1 y0 hb3
        replace x1:=keep1 x1 hb3
        replace y1:=keep1 y1 hb3
        replace x2:=keep1 x2 hb3
        replace y2:=keep1 y2 hb3
        replace x3:=keep1 x3 hb3
        replace y3:=keep1 y3 hb3
        replace x4:=keep1 x4 hb3
        replace y4:=keep1 y4 hb3
        replace x5:=keep1 x5 hb3
        replace y5:=keep1 y5 hb3
        clear hb3
        go_wp2_with fail
        go_ret
        exact ⟨Zt (by have n:=N.out;rw [E.out];simp [orL,n]),HB3.out⟩
      have zz2:(e2 != 0)=true:=by simpa using z2
      have N:=Lib.hid z2
      clear z2
      go_enter Try.func20,Try.ntmps20
      go_wp2_with fail
      obtain ⟨W,hW⟩:∃ W,W=(w.alloc (.cells #[.slice a0 p.sh.length c0,.slice a1 p.st.length c1,.int .i64 p.cor,.slice a3 p.se.length c3,.slice a4 p.fa.length c4,.int .i64 p.val] 31)).alloc (.cells #[.slice b0 q.sh.length d0,.slice b1 q.st.length d1,.int .i64 q.cor,.slice b3 q.se.length d3,.slice b4 q.fa.length d4,.int .i64 q.val] 31):=⟨_,rfl⟩
      rw [← hW]
      have HB:=Lib.hid (show Below w.heap.size w W by rw [hW];show Below _ _ _;go_grown)
      have x0:W.cell? ⟨w.heap.size,0,none⟩=some (.slice a0 p.sh.length c0):=by rw [hW];exact keep1 ((Zh w _ _ 0 rfl).trans rfl) (Zf _ _)
      have y0:W.cell? ⟨w.heap.size+1,0,none⟩=some (.slice b0 q.sh.length d0):=by rw [hW];exact (Zh _ _ _ 0 (by simp)).trans rfl
      have x1:W.cell? ⟨w.heap.size,1,none⟩=some (.slice a1 p.st.length c1):=by rw [hW];exact keep1 ((Zh w _ _ 1 rfl).trans rfl) (Zf _ _)
      have y1:W.cell? ⟨w.heap.size+1,1,none⟩=some (.slice b1 q.st.length d1):=by rw [hW];exact (Zh _ _ _ 1 (by simp)).trans rfl
      have x2:W.cell? ⟨w.heap.size,2,none⟩=some (.int .i64 p.cor):=by rw [hW];exact keep1 ((Zh w _ _ 2 rfl).trans rfl) (Zf _ _)
      have y2:W.cell? ⟨w.heap.size+1,2,none⟩=some (.int .i64 q.cor):=by rw [hW];exact (Zh _ _ _ 2 (by simp)).trans rfl
      have x3:W.cell? ⟨w.heap.size,3,none⟩=some (.slice a3 p.se.length c3):=by rw [hW];exact keep1 ((Zh w _ _ 3 rfl).trans rfl) (Zf _ _)
      have y3:W.cell? ⟨w.heap.size+1,3,none⟩=some (.slice b3 q.se.length d3):=by rw [hW];exact (Zh _ _ _ 3 (by simp)).trans rfl
      have x4:W.cell? ⟨w.heap.size,4,none⟩=some (.slice a4 p.fa.length c4):=by rw [hW];exact keep1 ((Zh w _ _ 4 rfl).trans rfl) (Zf _ _)
      have y4:W.cell? ⟨w.heap.size+1,4,none⟩=some (.slice b4 q.fa.length d4):=by rw [hW];exact (Zh _ _ _ 4 (by simp)).trans rfl
      have x5:W.cell? ⟨w.heap.size,5,none⟩=some (.int .i64 p.val):=by rw [hW];exact keep1 ((Zh w _ _ 5 rfl).trans rfl) (Zf _ _)
      have y5:W.cell? ⟨w.heap.size+1,5,none⟩=some (.int .i64 q.val):=by rw [hW];exact (Zh _ _ _ 5 (by simp)).trans rfl
      clear hW
      refine (C0.out _ HB.out).mono ?_
      rintro e w0 ⟨rfl,hb0⟩
      have HB0:=Lib.hid (Zg HB.out hb0)
      replace x0:=keep1 x0 hb0
      replace y0:=keep1 y0 hb0
      replace x1:=keep1 x1 hb0
      replace y1:=keep1 y1 hb0
      replace x2:=keep1 x2 hb0
      replace y2:=keep1 y2 hb0
      replace x3:=keep1 x3 hb0
      replace y3:=keep1 y3 hb0
      replace x4:=keep1 x4 hb0
      replace y4:=keep1 y4 hb0
      replace x5:=keep1 x5 hb0
      replace y5:=keep1 y5 hb0
      clear hb0
      go_wp2_with fail
      refine (C1.out _ HB0.out).mono ?_
      rintro e w1 ⟨rfl,hb1⟩
      have HB1:=Lib.hid (Zg HB0.out hb1)
      replace x0:=keep1 x0 hb1
      replace y0:=keep1 y0 hb1
      replace x1:=keep1 x1 hb1
      replace y1:=keep1 y1 hb1
      replace x2:=keep1 x2 hb1
      replace y2:=keep1 y2 hb1
      replace x3:=keep1 x3 hb1
      replace y3:=keep1 y3 hb1
      replace x4:=keep1 x4 hb1
      replace y4:=keep1 y4 hb1
      replace x5:=keep1 x5 hb1
      replace y5:=keep1 y5 hb1
      clear hb1
      go_wp2_with fail
      refine (C2.out _ HB1.out).mono ?_
      rintro e w2 ⟨rfl,hb2⟩
      have HB2:=Lib.hid (Zg HB1.out hb2)
      replace x0:=keep1 x0 hb2
      replace y0:=keep1 y0 hb2
      replace x1:=keep1 x1 hb2
      replace y1:=keep1 y1 hb2
      replace x2:=keep1 x2 hb2
      replace y2:=keep1 y2 hb2
      replace x3:=keep1 x3 hb2
      replace y3:=keep1 y3 hb2
      replace x4:=keep1 x4 hb2
      replace y4:=keep1 y4 hb2
      replace x5:=keep1 x5 hb2
      replace y5:=keep1 y5 hb2
      clear hb2
      go_wp2_with fail
      go_ret
      exact ⟨Zt (by have n:=N.out;rw [E.out];simp [orL,n]),HB2.out⟩
    have zz1:(e1 != 0)=true:=by simpa using z1
    have N:=Lib.hid z1
    clear z1
    go_enter Try.func20,Try.ntmps20
    go_wp2_with fail
    obtain ⟨W,hW⟩:∃ W,W=(w.alloc (.cells #[.slice a0 p.sh.length c0,.slice a1 p.st.length c1,.int .i64 p.cor,.slice a3 p.se.length c3,.slice a4 p.fa.length c4,.int .i64 p.val] 31)).alloc (.cells #[.slice b0 q.sh.length d0,.slice b1 q.st.length d1,.int .i64 q.cor,.slice b3 q.se.length d3,.slice b4 q.fa.length d4,.int .i64 q.val] 31):=⟨_,rfl⟩
    rw [← hW]
    have HB:=Lib.hid (show Below w.heap.size w W by rw [hW];show Below _ _ _;go_grown)
    have x0:W.cell? ⟨w.heap.size,0,none⟩=some (.slice a0 p.sh.length c0):=by rw [hW];exact keep1 ((Zh w _ _ 0 rfl).trans rfl) (Zf _ _)
    have y0:W.cell? ⟨w.heap.size+1,0,none⟩=some (.slice b0 q.sh.length d0):=by rw [hW];exact (Zh _ _ _ 0 (by simp)).trans rfl
    have x1:W.cell? ⟨w.heap.size,1,none⟩=some (.slice a1 p.st.length c1):=by rw [hW];exact keep1 ((Zh w _ _ 1 rfl).trans rfl) (Zf _ _)
    have y1:W.cell? ⟨w.heap.size+1,1,none⟩=some (.slice b1 q.st.length d1):=by rw [hW];exact (Zh _ _ _ 1 (by simp)).trans rfl
    have x2:W.cell? ⟨w.heap.size,2,none⟩=some (.int .i64 p.cor):=by rw [hW];exact keep1 ((Zh w _ _ 2 rfl).trans rfl) (Zf _ _)
    have y2:W.cell? ⟨w.heap.size+1,2,none⟩=some (.int .i64 q.cor):=by rw [hW];exact (Zh _ _ _ 2 (by simp)).trans rfl
    have x3:W.cell? ⟨w.heap.size,3,none⟩=some (.slice a3 p.se.length c3):=by rw [hW];exact keep1 ((Zh w _ _ 3 rfl).trans rfl) (Zf _ _)
    have y3:W.cell? ⟨w.heap.size+1,3,none⟩=some (.slice b3 q.se.length d3):=by rw [hW];exact (Zh _ _ _ 3 (by simp)).trans rfl
    have x4:W.cell? ⟨w.heap.size,4,none⟩=some (.slice a4 p.fa.length c4):=by rw [hW];exact keep1 ((Zh w _ _ 4 rfl).trans rfl) (Zf _ _)
    have y4:W.cell? ⟨w.heap.size+1,4,none⟩=some (.slice b4 q.fa.length d4):=by rw [hW];exact (Zh _ _ _ 4 (by simp)).trans rfl
    have x5:W.cell? ⟨w.heap.size,5,none⟩=some (.int .i64 p.val):=by rw [hW];exact keep1 ((Zh w _ _ 5 rfl).trans rfl) (Zf _ _)
    have y5:W.cell? ⟨w.heap.size+1,5,none⟩=some (.int .i64 q.val):=by rw [hW];exact (Zh _ _ _ 5 (by simp)).trans rfl
    clear hW
    refine (C0.out _ HB.out).mono ?_
    rintro e w0 ⟨rfl,hb0⟩
    have HB0:=Lib.hid (Zg HB.out hb0)
    replace x0:=keep1 x0 hb0
    replace y0:=keep1 y0 hb0
    replace x1:=keep1 x1 hb0
    replace y1:=keep1 y1 hb0
    replace x2:=keep1 x2 hb0
    replace y2:=keep1 y2 hb0
    replace x3:=keep1 x3 hb0
    replace y3:=keep1 y3 hb0
    replace x4:=keep1 x4 hb0
    replace y4:=keep1 y4 hb0
    replace x5:=keep1 x5 hb0
    replace y5:=keep1 y5 hb0
    clear hb0
    go_wp2_with fail
    refine (C1.out _ HB0.out).mono ?_
    rintro e w1 ⟨rfl,hb1⟩
    have HB1:=Lib.hid (Zg HB0.out hb1)
    replace x0:=keep1 x0 hb1
    replace y0:=keep1 y0 hb1
    replace x1:=keep1 x1 hb1
    replace y1:=keep1 y1 hb1
    replace x2:=keep1 x2 hb1
    replace y2:=keep1 y2 hb1
    replace x3:=keep1 x3 hb1
    replace y3:=keep1 y3 hb1
    replace x4:=keep1 x4 hb1
    replace y4:=keep1 y4 hb1
    replace x5:=keep1 x5 hb1
    replace y5:=keep1 y5 hb1
    clear hb1
    go_wp2_with fail
    go_ret
    exact ⟨Zt (by have n:=N.out;rw [E.out];simp [orL,n]),HB1.out⟩
  have zz0:(e0 != 0)=true:=by simpa using z0
  have N:=Lib.hid z0
  clear z0
  go_enter Try.func20,Try.ntmps20
  go_wp2_with fail
  obtain ⟨W,hW⟩:∃ W,W=(w.alloc (.cells #[.slice a0 p.sh.length c0,.slice a1 p.st.length c1,.int .i64 p.cor,.slice a3 p.se.length c3,.slice a4 p.fa.length c4,.int .i64 p.val] 31)).alloc (.cells #[.slice b0 q.sh.length d0,.slice b1 q.st.length d1,.int .i64 q.cor,.slice b3 q.se.length d3,.slice b4 q.fa.length d4,.int .i64 q.val] 31):=⟨_,rfl⟩
  rw [← hW]
  have HB:=Lib.hid (show Below w.heap.size w W by rw [hW];show Below _ _ _;go_grown)
  have x0:W.cell? ⟨w.heap.size,0,none⟩=some (.slice a0 p.sh.length c0):=by rw [hW];exact keep1 ((Zh w _ _ 0 rfl).trans rfl) (Zf _ _)
  have y0:W.cell? ⟨w.heap.size+1,0,none⟩=some (.slice b0 q.sh.length d0):=by rw [hW];exact (Zh _ _ _ 0 (by simp)).trans rfl
  have x1:W.cell? ⟨w.heap.size,1,none⟩=some (.slice a1 p.st.length c1):=by rw [hW];exact keep1 ((Zh w _ _ 1 rfl).trans rfl) (Zf _ _)
  have y1:W.cell? ⟨w.heap.size+1,1,none⟩=some (.slice b1 q.st.length d1):=by rw [hW];exact (Zh _ _ _ 1 (by simp)).trans rfl
  have x2:W.cell? ⟨w.heap.size,2,none⟩=some (.int .i64 p.cor):=by rw [hW];exact keep1 ((Zh w _ _ 2 rfl).trans rfl) (Zf _ _)
  have y2:W.cell? ⟨w.heap.size+1,2,none⟩=some (.int .i64 q.cor):=by rw [hW];exact (Zh _ _ _ 2 (by simp)).trans rfl
  have x3:W.cell? ⟨w.heap.size,3,none⟩=some (.slice a3 p.se.length c3):=by rw [hW];exact keep1 ((Zh w _ _ 3 rfl).trans rfl) (Zf _ _)
  have y3:W.cell? ⟨w.heap.size+1,3,none⟩=some (.slice b3 q.se.length d3):=by rw [hW];exact (Zh _ _ _ 3 (by simp)).trans rfl
  have x4:W.cell? ⟨w.heap.size,4,none⟩=some (.slice a4 p.fa.length c4):=by rw [hW];exact keep1 ((Zh w _ _ 4 rfl).trans rfl) (Zf _ _)
  have y4:W.cell? ⟨w.heap.size+1,4,none⟩=some (.slice b4 q.fa.length d4):=by rw [hW];exact (Zh _ _ _ 4 (by simp)).trans rfl
  have x5:W.cell? ⟨w.heap.size,5,none⟩=some (.int .i64 p.val):=by rw [hW];exact keep1 ((Zh w _ _ 5 rfl).trans rfl) (Zf _ _)
  have y5:W.cell? ⟨w.heap.size+1,5,none⟩=some (.int .i64 q.val):=by rw [hW];exact (Zh _ _ _ 5 (by simp)).trans rfl
  clear hW
  refine (C0.out _ HB.out).mono ?_
  rintro e w0 ⟨rfl,hb0⟩
  have HB0:=Lib.hid (Zg HB.out hb0)
  replace x0:=keep1 x0 hb0
  replace y0:=keep1 y0 hb0
  replace x1:=keep1 x1 hb0
  replace y1:=keep1 y1 hb0
  replace x2:=keep1 x2 hb0
  replace y2:=keep1 y2 hb0
  replace x3:=keep1 x3 hb0
  replace y3:=keep1 y3 hb0
  replace x4:=keep1 x4 hb0
  replace y4:=keep1 y4 hb0
  replace x5:=keep1 x5 hb0
  replace y5:=keep1 y5 hb0
  clear hb0
  go_wp2_with fail
  go_ret
  exact ⟨Zt (by have n:=N.out;rw [E.out];simp [orL,n]),HB0.out⟩
end Go.Proofs.Ytabgfofjgkibmaa
namespace Go.Proofs.Ytabgfofjgkibmaa
theorem cmpI_anti:∀ (xs ys:List Int),cmpI ys xs = -cmpI xs ys
  | [],[]=>rfl
  | [],_::_=>rfl
  | _::_,[]=>rfl
  | x::xs,y::ys=>by
    simp only [cmpI]
    by_cases h1:x<y
    · rw [if_neg (by omega),if_pos h1,if_pos h1];rfl
    by_cases h2:y<x
    · rw [if_pos h2,if_neg h1,if_pos h2]
    rw [if_neg h2,if_neg h1,if_neg h1,if_neg h2];exact cmpI_anti xs ys
theorem cmpN_vals (x y:Int):(cmpN x y = -1∧x<y)∨(cmpN x y=0∧x=y)∨(cmpN x y=1∧y<x):=by
  unfold cmpN
  split
  · exact .inl ⟨rfl,by assumption⟩
  split
  · exact .inr (.inr ⟨rfl,by assumption⟩)
  exact .inr (.inl ⟨rfl,by omega⟩)
theorem cmpN_anti (x y:Int):cmpN y x = -cmpN x y:=by
  have:=cmpN_vals x y;have:=cmpN_vals y x;omega
theorem orL_neg:∀ xs:List Int,orL (xs.map (- ·)) = -orL xs
  | []=>rfl
  | x::xs=>by
    simp only [List.map_cons,orL,orL_neg xs]
    by_cases h:x=0
    · rw [if_pos h,if_pos (by omega)]
    rw [if_neg h,if_neg (by omega)]
end Go.Proofs.Ytabgfofjgkibmaa
namespace Go.Proofs.Ytabgfofjgkibmaa
open Go.RowKit Go.Deep
namespace Rd
section
variable {J:World→Prop} {F ok:Nat→Prop} {w:World} {lo:Nat}
structure CgIn (c:Cf):Prop where
  sh:InOk c.sh
  st:InOk c.st
  se:InOk c.se
  fa:InOk c.fa
  cor:I64 c.cor
  val:I64 c.val
theorem cf_in {v:Value} {c:Cf} (h:IsCf lo w v c):CgIn c:=by
  obtain ⟨_,_,_,_,_,h0,h1,h2,h3,h4,h5⟩:=h
  exact ⟨h0.ok,h1.ok,h3.ok,h4.ok,h2,h5⟩
theorem cf_pu (hok:∀ b,lo≤b→b<w.heap.size→ok b) {v:Value} {c:Cf} (h:IsCf lo w v c):Pu F w ok (.agg (cCg c)) v:=by
  obtain ⟨u0,u1,u3,u4,rfl,h0,h1,_,h3,h4,_⟩:=h
  refine .agg rfl fun j hj => ?_
  match j,hj with
  | 0,_=>exact Yz hok h0
  | 1,_=>exact Yz hok h1
  | 2,_=>exact .v _
  | 3,_=>exact Yz hok h3
  | 4,_=>exact Yz hok h4
  | 5,_=>exact .v _
theorem cf_of {v:Value} {c:Cf} (H:CgIn c) (h:Pu F w ok (.agg (cCg c)) v):IsCf 0 w v c:=by
  obtain ⟨vs,rfl,hl,hv⟩:=Ke h
  match vs,hl,hv with
  | [v0,v1,v2,v3,v4,v5],_,hv =>
    have e2:=(hv 2 (by simp [cCg])).v_inv
    have e5:=(hv 5 (by simp [cCg])).v_inv
    simp only [List.getD_cons_succ,List.getD_cons_zero] at e2 e5
    subst e2 e5
    exact ⟨v0,v1,v3,v4,rfl,YK H.sh (fun _ _=>Nat.zero_le _) (hv 0 (by simp [cCg])),YK H.st (fun _ _=>Nat.zero_le _) (hv 1 (by simp [cCg])),H.cor,YK H.se (fun _ _=>Nat.zero_le _) (hv 3 (by simp [cCg])),YK H.fa (fun _ _=>Nat.zero_le _) (hv 4 (by simp [cCg])),H.val⟩
theorem agg_app {cs ds:List AV} {us vs:List Value} (h1:Pu F w ok (.agg cs) (.agg us.toArray)) (h2:Pu F w ok (.agg ds) (.agg vs.toArray)):Pu F w ok (.agg (cs++ds)) (.agg (us++vs).toArray):=by
  obtain ⟨us',e1,l1,p1⟩:=Ke h1
  obtain ⟨vs',e2,l2,p2⟩:=Ke h2
  obtain rfl:us=us':=by simpa using e1
  obtain rfl:vs=vs':=by simpa using e2
  refine .agg (by simp [l1,l2]) fun j hj => ?_
  by_cases hj':j<cs.length
  · rw [List.getElem_append_left hj']
    have:=p1 j hj'
    simpa [Array.getD_eq_getD_getElem?,List.getD_eq_getElem?_getD,List.getElem?_append_left (show j<us.length by omega)] using this
  rw [List.getElem_append_right (by omega)]
  have:=p2 (j-cs.length) (by simp at hj;omega)
  simpa [Array.getD_eq_getD_getElem?,List.getD_eq_getElem?_getD,List.getElem?_append_right (show us.length≤j by omega),l1] using this
theorem at_pu {v:Value} {q:Fm} {n t f:Int} {c:Cf} (h:IsAt w v q n t f c):Pu (fun _=>True) w (fun b=>b<w.heap.size) (.agg (cFm q++(cSz n t f++cCg c))) v:=by
  obtain ⟨fs,cs,rfl,hF,hC⟩:=h
  refine agg_app (famw hF) (agg_app (.agg rfl fun j hj => ?_) (cf_pu (fun _ _ h=>h) hC))
  match j,hj with
  | 0,_=>exact .v _
  | 1,_=>exact .v _
  | 2,_=>exact .v _
theorem Wide_c {c:Cf} (H:CgIn c):Ctr Try.prog J 5 [.agg (cCg c)] (bv (wideCf c)):=ctr1 fun w v _ h=>(Wide_any (cf_of H h)).mono fun _ _=>ret_sc
theorem cmpCf_same (c:Cf):cmpCf c c=0:=by
  have h:cmpCf c c = -cmpCf c c:=by
    conv=>lhs;unfold cmpCf
    unfold cmpCf
    rw [← orL_neg]
    simp only [List.map_cons,List.map_nil]
    rw [← cmpI_anti c.sh c.sh,← cmpI_anti c.st c.st,← cmpI_anti c.se c.se,← cmpI_anti c.fa c.fa,← cmpN_anti c.cor c.cor,← cmpN_anti c.val c.val]
  omega
theorem rCompare_c {c:Cf} (H:CgIn c):Ctr Try.prog J 20 [.agg (cCg c),.agg (cCg c)] (iv 0):=ctr2 fun w v v' _ h h'=>by
  have:=rcfCompare_any (cf_of H h) (cf_of H h')
  rw [cmpCf_same] at this
  exact this.mono fun _ _=>ret_sc
theorem cg_ok {c:Cf} (H:CgIn c) (h:wideCf c=false):CgOk c:=by
  unfold wideCf at h
  simp only [Bool.or_eq_false_iff,decide_eq_false_iff_not] at h
  exact ⟨H.sh,H.st,H.se,H.fa,by omega,by omega,by omega,by omega⟩
end
end Rd
namespace Pe
open En Ap
theorem u64_int {x:Int} (h0:0≤x) (h:x≤1048576):IntKind.u64.wrap x=x:=by
  show x % 18446744073709551616=x;omega
section
variable {a b:Nat}
end
section
variable {a b:Nat} {c:Cf} (ha:a<c.st.length) (hb:b<c.st.length)
include ha hb
end
theorem in_ap {p:Fm} {n t f:Int} {c:Cf} {x y k:Int} (HL:FamLen p) (HC:Rd.CgOk c) (HI:Rd.CgIn c):Rd.CgIn (apC p n t f c x y k)∧Rd.CgOk (apC p n t f c x y k)∧(apE p n t f c x y k=0→(apC p n t f c x y k).st.length=c.st.length):=by
  by_cases h:apE p n t f c x y k=0
  · have hz:Rd.vcE p n t f c=0:=by
      by_cases hz:Rd.vcE p n t f c=0
      · exact hz
      rw [apE_err hz] at h;exact absurd h hz
    obtain ⟨hs,hx⟩:=vc_ok hz
    obtain ⟨hv,hadm,h8⟩:=Ns.sys_ok hs
    have hc:=cf_in hx
    have hai:=Ns.adm_in hadm
    have l8:=cf_len hc hai h8
    cases he:enB p n t f c (hdJ p f c p.msgs.length) x y k with
    | false=>rw [apE_no hz he] at h;cases h
    | true =>
      obtain ⟨r,i,hr,hi,rfl,rfl⟩:=en_at he
      have e:apC p n t f c ((r:Nat):Int) ((i:Nat):Int) k=af (n-f) c p.rules[r] i k:=by unfold apC;rw [if_pos h,afX_at hr]
      rw [e]
      have ok:=af_ok HL hc hv HC l8 hr hi (kp:=k)
      have hv2:I64 (af (n-f) c p.rules[r] i k).val:=by
        show I64 (if 0≤p.rules[r].wr then p.rules[r].wr else c.val)
        split
        · have R:=val_in hv (List.getElem_mem hr)
          have hsz:=val_sizes hv
          have:=R.wr
          unfold I64;omega
        exact HI.val
      exact ⟨⟨ok.sh,ok.st,ok.se,ok.fa,HI.cor,hv2⟩,ok,fun _=>stA_len _ _ _ _⟩
  have e:apC p n t f c x y k=zC:=by unfold apC;rw [if_neg h]
  rw [e]
  have hn:∀ x∈([]:List Int),I64 x:=fun x hx=>absurd hx (List.not_mem_nil)
  exact ⟨⟨hn,hn,hn,hn,by show I64 0;unfold I64;omega,by show I64 0;unfold I64;omega⟩,⟨hn,hn,hn,hn,by decide,by decide,by decide,by decide⟩,fun h2=>absurd h2 h⟩
end Pe
namespace Rp
open En Ap
abbrev Sp:=Int × Int × Int
def cSp (s:Sp):List AV:=[iv s.1,iv s.2.1,iv s.2.2]
theorem len_cSp (s:Sp):(cSp s).length=3:=rfl
theorem plain_cSp (s:Sp):∀ X∈cSp s,Plain X:=by
  intro X hX
  simp only [cSp,List.mem_cons,List.not_mem_nil,or_false] at hX
  rcases hX with rfl | rfl | rfl<;>exact .v _
theorem bel_of {l:List Int} {m:Int} (h:∀ x∈l,0≤x∧x<m):Rd.belB l m=true:=by
  unfold Rd.belB
  rw [Bool.not_eq_true',List.any_eq_false]
  intro x hx
  have:=h x hx
  unfold Rd.outB
  simp only [Bool.or_eq_true,decide_eq_true_eq,not_or]
  omega
theorem rd_of {p:Fm} {n f:Int} {c:Cf} (h:CfV p n f c):Rd.rdX p n f c=true:=by
  unfold Rd.rdX Rd.rdB
  simp only [Bool.and_eq_true,Bool.not_eq_true',decide_eq_true_eq,decide_eq_false_iff_not]
  have hls:=h.ls
  have hlf:=h.lf
  have hva:=h.va
  refine ⟨⟨⟨⟨⟨⟨⟨⟨⟨h.sh,h.ln⟩,bel_of h.st⟩,h.co⟩,by omega⟩,bel_of fun x hx => ?_⟩,by omega⟩,bel_of fun x hx => ?_⟩,by omega⟩,by omega⟩
  · have:=h.se x hx;omega
  have h1:=h.fa x hx
  have h2:=h.fz
  unfold Rd.mfE
  by_cases a:p.fault=1∨p.fault=2
  · rw [if_pos a];omega
  rw [if_neg a]
  have:=h2 (fun e=>a (.inl e)) (fun e=>a (.inr e)) x hx
  omega
theorem vc_of {p:Fm} {n t f:Int} {c:Cf} (hs:Ns.sysE p n t f=0) (h:CfV p n f c):Rd.vcE p n t f c=0:=by
  unfold Rd.vcE
  rw [if_pos hs,if_pos (rd_of h)]
theorem val_fault {p:Fm} (h:valE p=0):0≤p.fault∧p.fault≤3:=by
  unfold valE at h
  split at h
  · cases h
  split at h
  · cases h
  rename_i _ h2
  have:inB 0 3 p.fault=true:=by
    cases e:inB 0 3 p.fault with
    | true=>rfl
    | false=>exact absurd (.inr e) h2
  unfold inB at this
  simp at this
  omega
theorem af_cf {p:Fm} {n t f:Int} {c:Cf} (hs:Ns.sysE p n t f=0) (hc:CfV p n f c) {r:Nat} (hr:r<p.rules.length) {i:Nat} (hi:i<c.st.length) {kp:Int} (hl:lgB (af (n-f) c p.rules[r] i kp)=true):CfV p n f (af (n-f) c p.rules[r] i kp):=by
  obtain ⟨hv,ha,h8⟩:=Ns.sys_ok hs
  have hai:=Ns.adm_in ha
  have R:=val_in hv (List.getElem_mem hr)
  have hln:=hc.ln
  rw [lg_and] at hl
  refine ⟨?_,st_in hc R,hc.co,?_,fun x hx => ?_,?_,fun x hx => ?_,fun n1 n2 x hx => ?_,?_,hc.sh⟩
  · show (((stA _ _ _ _).length:Nat):Int)=_
    rw [stA_len];exact hc.ln
  · show (seA _ _ _ _ _).length=_
    rw [seA_len];exact hc.ls
  · have:=bel_in hl.1 x hx;omega
  · show (faA _ _ _ _ _).length=_
    rw [faA_len];exact hc.lf
  · have:=bel_in hl.2 x hx;omega
  · have hi2:((i:Nat):Int)<n-f:=by
      unfold Ns.cntE at hln
      by_cases h3:p.fault=3
      · rw [if_pos h3] at hln;omega
      rw [if_neg h3] at hln
      have h0:p.fault=0→f=0:=fun e=>by
        unfold admB at ha
        simp only [Bool.and_eq_true] at ha
        have:=ha.1.1.2
        rw [e] at this
        simp at this
        exact this.2
      have:=val_fault hv
      have:p.fault=0:=by omega
      have:=h0 this
      omega
    have e:(af (n-f) c p.rules[r] i kp).fa=c.fa:=if_pos hi2
    rw [e] at hx
    exact hc.fz n1 n2 x hx
  show 0≤(if 0≤p.rules[r].wr then p.rules[r].wr else c.val)∧(if 0≤p.rules[r].wr then p.rules[r].wr else c.val)<max ((p.vals.length:Nat):Int) 1
  have:=hc.va
  have hw:=R.wr
  split<;>omega
def nx (p:Fm) (n f:Int) (c:Cf) (s:Sp):Cf:=afX p n f c s.1 s.2.1 s.2.2
def ee (p:Fm) (n t f:Int) (c:Cf) (s:Sp):Int:=apE p n t f c s.1 s.2.1 s.2.2
def cK (p:Fm) (n f:Int) (c:Cf) (ss:List Sp) (k:Nat):Cf:=(ss.take k).foldl (nx p n f) c
theorem cK_succ {p:Fm} {n f:Int} {c:Cf} {ss:List Sp} {k:Nat} (h:k<ss.length):cK p n f c ss (k+1)=nx p n f (cK p n f c ss k) ss[k]:=by
  unfold cK
  rw [List.take_succ_eq_append_getElem h,List.foldl_append]
  rfl
theorem cK_sh {p:Fm} {n f:Int} {c:Cf} {ss:List Sp} (k:Nat):(cK p n f c ss k).sh=c.sh:=by
  unfold cK
  generalize ss.take k=l
  induction l generalizing c with
  | nil=>rfl
  | cons s l ih=>show (l.foldl (nx p n f) (nx p n f c s)).sh=_;rw [ih];rfl
theorem ee_ok {p:Fm} {n t f:Int} {c:Cf} {s:Sp} (hs:Ns.sysE p n t f=0) (hc:CfV p n f c) (h:ee p n t f c s=0) :
    ∃ (r i:Nat) (hr:r<p.rules.length),i<c.st.length∧s.1=((r:Nat):Int)∧s.2.1=((i:Nat):Int)∧enB p n t f c (hdJ p f c p.msgs.length) s.1 s.2.1 s.2.2=true∧lgB (nx p n f c s)=true∧nx p n f c s=af (n-f) c p.rules[r] i s.2.2:=by
  have hz:=vc_of hs hc
  unfold ee at h
  cases he:enB p n t f c (hdJ p f c p.msgs.length) s.1 s.2.1 s.2.2 with
  | false=>rw [apE_no hz he] at h;cases h
  | true =>
    obtain ⟨r,i,hr,hi,e1,e2⟩:=en_at he
    refine ⟨r,i,hr,hi,e1,e2,rfl,?_,?_⟩
    · unfold apE at h
      rw [if_pos hz,if_pos he] at h
      cases e:lgB (afX p n f c s.1 s.2.1 s.2.2) with
      | true=>exact e
      | false=>rw [e] at h;cases h
    unfold nx;rw [e1,e2,afX_at hr]
theorem nx_cf {p:Fm} {n t f:Int} {c:Cf} {s:Sp} (hs:Ns.sysE p n t f=0) (hc:CfV p n f c) (h:ee p n t f c s=0):CfV p n f (nx p n f c s):=by
  obtain ⟨r,i,hr,hi,e1,e2,he,hl,e⟩:=ee_ok hs hc h
  rw [e] at hl ⊢
  exact af_cf hs hc hr hi hl
theorem nx_ok {p:Fm} {n t f:Int} {c:Cf} {s:Sp} (HL:FamLen p) (hs:Ns.sysE p n t f=0) (hc:CfV p n f c) (HC:Rd.CgOk c) (h:ee p n t f c s=0):Rd.CgOk (nx p n f c s):=by
  obtain ⟨r,i,hr,hi,e1,e2,he,hl,e⟩:=ee_ok hs hc h
  obtain ⟨hv,ha,h8⟩:=Ns.sys_ok hs
  rw [e]
  exact af_ok HL hc hv HC (cf_len hc (Ns.adm_in ha) h8) hr hi
def okK (p:Fm) (n t f:Int) (c:Cf) (ss:List Sp) (k:Nat):Prop:=∀ j (h:j<ss.length),j<k→ee p n t f (cK p n f c ss j) ss[j]=0
theorem ok_zero {p:Fm} {n t f:Int} {c:Cf} {ss:List Sp}:okK p n t f c ss 0:=fun _ _ h=>absurd h (by omega)
theorem ok_succ {p:Fm} {n t f:Int} {c:Cf} {ss:List Sp} {k:Nat} (hk:k<ss.length) (h:okK p n t f c ss k) (e:ee p n t f (cK p n f c ss k) ss[k]=0):okK p n t f c ss (k+1):=fun j hj hjk=>by
  by_cases a:j=k
  · subst a;exact e
  exact h j hj (by omega)
theorem cK_cf {p:Fm} {n t f:Int} {c:Cf} {ss:List Sp} (hs:Ns.sysE p n t f=0) (hc:CfV p n f c):∀ k,k≤ss.length→okK p n t f c ss k→CfV p n f (cK p n f c ss k)
  | 0,_,_=>hc
  | k+1,hk,h=>by
    have h1:=cK_cf hs hc k (by omega) fun j hj hjk=>h j hj (by omega)
    rw [cK_succ (by omega)]
    exact nx_cf hs h1 (h k (by omega) (by omega))
theorem cK_ok {p:Fm} {n t f:Int} {c:Cf} {ss:List Sp} (HL:FamLen p) (hs:Ns.sysE p n t f=0) (hc:CfV p n f c) (HC:Rd.CgOk c):∀ k,k≤ss.length→okK p n t f c ss k→Rd.CgOk (cK p n f c ss k)
  | 0,_,_=>HC
  | k+1,hk,h=>by
    have h0:okK p n t f c ss k:=fun j hj hjk=>h j hj (by omega)
    have h1:=cK_ok HL hs hc HC k (by omega) h0
    rw [cK_succ (by omega)]
    exact nx_ok HL hs (cK_cf hs hc k (by omega) h0) h1 (h k (by omega) (by omega))
theorem len_cCg (c:Cf):(Rd.cCg c).length=6:=rfl
def cRun (c:Cf) (ss:List Sp):List AV:=Rd.cCg c++[slA 3 cSp ss]
def frst:List Int→Int
  | []=>0
  | e::l=>if e=0 then frst l else e
theorem frst_zero:∀ {l:List Int},(∀ e∈l,e=0)→frst l=0
  | [],_=>rfl
  | e::l,h=>by unfold frst;rw [if_pos (h e (by simp))];exact frst_zero fun x hx=>h x (by simp [hx])
theorem frst_all:∀ {l:List Int},frst l=0→∀ e∈l,e=0
  | [],_,_,h=>absurd h List.not_mem_nil
  | a::l,h,e,he=>by
    unfold frst at h
    split at h
    · rename_i ha
      rcases List.mem_cons.1 he with rfl | he
      · exact ha
      exact frst_all h e he
    rename_i ha;exact absurd h ha
theorem frst_at:∀ {l:List Int} {k:Nat} (hk:k<l.length),(∀ j (hj:j<l.length),j<k→l[j]=0)→¬ l[k]=0→frst l=l[k]
  | [],_,hk,_,_=>absurd hk (by simp)
  | a::l,0,_,_,he=>by unfold frst;rw [if_neg (show ¬ a=0 from he)];rfl
  | a::l,k+1,hk,h,he=>by
    unfold frst
    rw [if_pos (show a=0 from h 0 (by simp) (by omega))]
    exact frst_at (l:=l) (k:=k) (by simpa using hk) (fun j hj hjk=>h (j+1) (by simpa using hj) (by omega)) he
def eeL (p:Fm) (n t f:Int) (c:Cf) (ss:List Sp):List Int:=(List.range ss.length).map fun j=>ee p n t f (cK p n f c ss j) (ss.getD j (0,0,0))
theorem eeL_len (p:Fm) (n t f:Int) (c:Cf) (ss:List Sp):(eeL p n t f c ss).length=ss.length:=by simp [eeL]
theorem eeL_at {p:Fm} {n t f:Int} {c:Cf} {ss:List Sp} {j:Nat} (h:j<ss.length):(eeL p n t f c ss)[j]'(by rw [eeL_len];exact h)=ee p n t f (cK p n f c ss j) ss[j]:=by
  simp only [eeL,List.getElem_map,List.getElem_range]
  rw [List.getD_eq_getElem?_getD,List.getElem?_eq_getElem h];rfl
def rpE (p:Fm) (n t f:Int) (c:Cf) (ss:List Sp):Int:=if Ns.sysE p n t f=0 then (if Rd.rdX p n f c=true then frst (eeL p n t f c ss) else 10) else Ns.sysE p n t f
def rpK (p:Fm) (n f:Int) (c:Cf) (ss:List Sp) (k:Nat):List Cf:=(List.range (k+1)).map (cK p n f c ss)
def rpL (p:Fm) (n t f:Int) (c:Cf) (ss:List Sp):List Cf:=if rpE p n t f c ss=0 then rpK p n f c ss ss.length else []
theorem rpK_succ (p:Fm) (n f:Int) (c:Cf) (ss:List Sp) (k:Nat):rpK p n f c ss (k+1)=rpK p n f c ss k++[cK p n f c ss (k+1)]:=by
  unfold rpK
  rw [List.range_succ (n:=k+1),List.map_append]
  rfl
theorem rpK_len (p:Fm) (n f:Int) (c:Cf) (ss:List Sp) (k:Nat):(rpK p n f c ss k).length=k+1:=by simp [rpK]
theorem rpK_at {p:Fm} {n f:Int} {c:Cf} {ss:List Sp} {k j:Nat} (h:j<k+1):(rpK p n f c ss k)[j]'(by rw [rpK_len];exact h)=cK p n f c ss j:=by simp [rpK]
section
variable {p:Fm} {n t f:Int} {c:Cf} {ss:List Sp}
theorem rp_sys (h:¬ Ns.sysE p n t f=0):rpE p n t f c ss=Ns.sysE p n t f:=by unfold rpE;rw [if_neg h]
theorem rp_run (h:Ns.sysE p n t f=0) (hx:Rd.rdX p n f c=false):rpE p n t f c ss=10:=by unfold rpE;rw [if_pos h,hx];rfl
theorem rp_err (h:Ns.sysE p n t f=0) (hx:Rd.rdX p n f c=true) {k:Nat} (hk:k<ss.length) (ok:okK p n t f c ss k) (e:¬ ee p n t f (cK p n f c ss k) ss[k]=0):rpE p n t f c ss=ee p n t f (cK p n f c ss k) ss[k]:=by
  unfold rpE
  rw [if_pos h,if_pos hx,frst_at (k:=k) (by rw [eeL_len];exact hk) (fun j hj hjk => ?_) (by rw [eeL_at hk];exact e),eeL_at hk]
  have hj':j<ss.length:=by rw [eeL_len] at hj;exact hj
  rw [eeL_at hj']
  exact ok j hj' hjk
theorem rp_ok (h:Ns.sysE p n t f=0) (hx:Rd.rdX p n f c=true) (ok:okK p n t f c ss ss.length):rpE p n t f c ss=0:=by
  unfold rpE
  rw [if_pos h,if_pos hx]
  refine frst_zero fun e he => ?_
  obtain ⟨j,hj,rfl⟩:=List.getElem_of_mem he
  have hj':j<ss.length:=by rw [eeL_len] at hj;exact hj
  rw [eeL_at hj']
  exact ok j hj' hj'
theorem ok_rp (h:rpE p n t f c ss=0):Ns.sysE p n t f=0∧Rd.rdX p n f c=true∧okK p n t f c ss ss.length:=by
  unfold rpE at h
  split at h
  · rename_i hs
    split at h
    · rename_i hx
      refine ⟨hs,hx,fun j hj _ => ?_⟩
      rw [← eeL_at hj]
      exact frst_all h _ (List.getElem_mem _)
    cases h
  rename_i hs;exact absurd h hs
theorem cK_take {k j:Nat} (h:j≤k):cK p n f c (ss.take k) j=cK p n f c ss j:=by
  unfold cK
  rw [List.take_take,Nat.min_eq_left h]
theorem rp_take {k:Nat} (hk:k≤ss.length) (h:rpE p n t f c ss=0):rpE p n t f c (ss.take k)=0:=by
  obtain ⟨hs,hx,ok⟩:=ok_rp h
  refine rp_ok hs hx fun j hj _ => ?_
  have hj':j<k:=by simp at hj;omega
  rw [cK_take (by omega),List.getElem_take]
  exact ok j (by omega) (by omega)
theorem rpL_take {k:Nat} (hk:k≤ss.length) (h:rpE p n t f c ss=0):rpL p n t f c (ss.take k)=(rpL p n t f c ss).take (k+1):=by
  unfold rpL
  rw [if_pos (rp_take hk h),if_pos h]
  refine List.ext_getElem (by simp [rpK_len,hk]) fun j h1 h2 => ?_
  have hj:j<k+1:=by rw [rpK_len] at h1;simp at h1;omega
  rw [List.getElem_take,rpK_at (by simp;omega),rpK_at (by omega),cK_take (by omega)]
theorem rpL_no (h:¬ rpE p n t f c ss=0):rpL p n t f c ss=[]:=by unfold rpL;rw [if_neg h]
theorem rpL_yes (h:rpE p n t f c ss=0):rpL p n t f c ss=rpK p n f c ss ss.length:=by unfold rpL;rw [if_pos h]
theorem rpL_len (h:rpE p n t f c ss=0):(rpL p n t f c ss).length=ss.length+1:=by rw [rpL_yes h,rpK_len]
theorem rpL_at (h:rpE p n t f c ss=0) {j:Nat} (hj:j<(rpL p n t f c ss).length):(rpL p n t f c ss)[j]=cK p n f c ss j:=by
  have hl:=rpL_len h
  simp only [rpL_yes h]
  exact rpK_at (by omega)
theorem ap_at (h:rpE p n t f c ss=0) {j:Nat} (hj:j<ss.length):apE p n t f (cK p n f c ss j) ss[j].1 ss[j].2.1 ss[j].2.2=0∧apC p n t f (cK p n f c ss j) ss[j].1 ss[j].2.1 ss[j].2.2=cK p n f c ss (j+1):=by
  obtain ⟨_,_,ok⟩:=ok_rp h
  have e:apE p n t f (cK p n f c ss j) ss[j].1 ss[j].2.1 ss[j].2.2=0:=ok j hj hj
  refine ⟨e,?_⟩
  unfold apC
  rw [if_pos e,cK_succ hj]
  rfl
theorem cK_in {k:Nat} (HI:Rd.CgIn c) (HL:FamLen p) (HC:Rd.CgOk c) (hk:k≤ss.length) (h:rpE p n t f c ss=0):Rd.CgIn (cK p n f c ss k):=by
  obtain ⟨hs,hx,ok⟩:=ok_rp h
  induction k with
  | zero=>exact HI
  | succ k ih =>
    have h1:=ih (by omega)
    have h2:=cK_ok HL hs (cf_in hx) HC k (by omega) fun j hj hjk=>ok j hj (by omega)
    have h3:=ap_at h (show k<ss.length by omega)
    rw [← h3.2]
    exact (Pe.in_ap HL h2 h1).1
theorem cK_okA {k:Nat} (HL:FamLen p) (HC:Rd.CgOk c) (hk:k≤ss.length) (h:rpE p n t f c ss=0):Rd.CgOk (cK p n f c ss k):=by
  obtain ⟨hs,hx,ok⟩:=ok_rp h
  exact cK_ok HL hs (cf_in hx) HC k hk fun j hj _=>ok j hj hj
end
def frCg (c:Cf):List AV:=[.fr (Zc c.sh),.fr (Zc c.st),iv c.cor,.fr (Zc c.se),.fr (Zc c.fa),iv c.val]
theorem newCg (c:Cf):∀ d∈frCg c,d.isNew=true:=fun d hd=>by
  simp only [frCg,List.mem_cons,List.not_mem_nil,or_false] at hd;rcases hd with rfl | rfl | rfl | rfl | rfl | rfl<;>rfl
theorem cellCg (c:Cf):∀ d∈frCg c,d.cell=true:=fun d hd=>by
  simp only [frCg,List.mem_cons,List.not_mem_nil,or_false] at hd;rcases hd with rfl | rfl | rfl | rfl | rfl | rfl<;>rfl
theorem snocCg {p:Fm} {n f:Int} {c:Cf} {ss:List Sp} {k:Nat}:(rpK p n f c ss k).flatMap Rd.cCg++Yh true (frCg (cK p n f c ss (k+1)))=(rpK p n f c ss (k+1)).flatMap Rd.cCg:=by
  rw [rpK_succ,List.flatMap_append]
  simp [Yh,AV.unfr,frCg,Rd.cCg]
theorem flat_first {α:Type} {g:α→List AV} {z:Nat} (hz:∀ x,(g x).length=z):∀ (l:List α) (k:Nat),k≤l.length→((l.flatMap g).drop (0*z)).take (k*z)=(l.take k).flatMap g
  | _,0,_=>by simp
  | [],k+1,h=>absurd h (by simp)
  | a::l,k+1,h=>by
    have ih:=flat_first hz l k (by simpa using h)
    rw [Nat.zero_mul,List.drop_zero] at ih ⊢
    rw [List.flatMap_cons,List.take_succ_cons,List.flatMap_cons,← ih,List.take_append,hz,show (k+1)*z-z=k*z by rw [Nat.succ_mul];omega,List.take_of_length_le (by rw [hz,Nat.succ_mul];omega)]
theorem i64_nat {x:Nat} (h:x≤1048576):IntKind.i64.wrap (x:Int)=x:=by
  show (if (true&&decide ((x:Int) % 18446744073709551616≥9223372036854775808))=true then (x:Int) % 18446744073709551616-18446744073709551616 else (x:Int) % 18446744073709551616)=x
  rw [if_neg (by simp;omega)];omega
end Rp
variable {J:World→Prop}
set_option maxRecDepth 100000 in
set_option maxHeartbeats 6400000 in
theorem after_c {p:Fm} (HL:FamLen p) {n t f:Int} {c:Cf} (hc:En.CfV p n f c) (hv:valE p=0) (l8:c.st.length≤8) {sx:Int} {r:Nat} (hr:r<p.rules.length) {i:Nat} (hi:i<c.st.length) {kp:Int} (hpt:p.rules[r].kind=2∨p.rules[r].kind=5→0≤kp∧kp<((c.st.length:Nat):Int)):Ctr Try.prog J 38 [.el (En.sysP p n t f) 0,.agg (En.cfV sx c),.agg [iv r,iv i,iv kp]] (.agg (En.cfV sx (Ap.af (n-f) c p.rules[r] i kp))):=by
 have R:=En.val_in hv (List.getElem_mem hr)
 have hz:=En.val_sizes hv
 have hn:=hc.ln.symm
 have hls:=hc.ls
 have hlf:=hc.lf
 have hsl:=(HL.rules _ (List.getElem_mem hr)).send
 refine Zx Try.func38 rfl (by intro X hX;simp only [List.mem_cons,List.not_mem_nil,or_false] at hX;rcases hX with rfl | rfl | rfl;exact (show Plain (.el (En.sysP p n t f) 0) from .el (ZQ (En.plain_sysP p n t f)));exact Zk (En.plain_cfV _ c);exact Zk (fun X hX=>by simp only [List.mem_cons,List.not_mem_nil,or_false] at hX;rcases hX with rfl | rfl | rfl<;>exact .v _)) (n:=108) rfl (by simp) (fun w0 => ?_)
 refine kW 108 [] [(0,.el (En.sysP p n t f) 0),(1,.agg (En.cfV sx c)),(2,.agg [iv r,iv i,iv kp])] (Zb (Za (ZM rfl (YT (X := .agg (En.cfV sx c)) (k:=1) (.tmp 1) rfl rfl) ⟨I0,T0⟩ T0 rfl (oA (ZK (X := .agg [iv r,iv i,iv kp]) (.tmp 2) rfl rfl rfl) I0 (ZM rfl (ZT (z := .agg #[.int .i64 0,.int .i64 0,.int .i64 0,.int .i64 0,.int .i64 0,.int .i64 0,.int .i64 0,.int .i64 0,.int .i64 0,.int .i64 0,.int .i64 0,.int .i64 0,.int .i64 0,.int .i64 0,.int .i64 0,.int .i64 0]) (k:=2) rfl (by kernel_rfl)) T0 T0 rfl (Ze (Zd (Zb ?_))))))))
 refine Zr (dM (mT 0 (.el (En.sysP p n t f) 0)) (dA (Zm (off:=0) (.tmp 12) rfl) I0 (dA (fe 0 13 U94 10) I0 (dA (fe 9 14 U27 1) I0 (dA (lE (slA 18 cRu p.rules) 15 U25) I0 (dA (fe 0 5 U49 1) I0 (dA (lE (iv r) 17 U3) I0 (dC (xS (r*18) 16 18 U25) I0 I0 (dM (aT 19 (.el (p.rules.flatMap cRu) (r*18))) (dE ?_)))))))))) (by kernel_rfl)
 show ETri J w0 _ _ _
 refine kW 108 [(1,.box 70 (En.cfV sx c)),(2,.box 70 [iv 0,iv 0,iv 0,iv 0,iv 0,iv 0,iv 0,iv 0,iv 0,iv 0,iv 0,iv 0,iv 0,iv 0,iv 0,iv 0])] [(0,.el (En.sysP p n t f) 0),(4,.box 1 0),(5,.el ([iv r,iv i,iv kp]) 0),(6,.box 2 0),(7,.el (p.rules.flatMap cRu) (r*18))] (Zd (Zb (Zb (Za (pM (mT 7 (.el (p.rules.flatMap cRu) (r*18))) (oA (Zm (off:=r*18) (.tmp 20) rfl) I0 (oA (fe (r*18+1) 21 U55 1) I0 (oA (lE (iv p.rules[r].kind) 22 U3 ((Zu lenRu p.rules r 1 (by omega) (by decide)).trans rfl)) I0 (oC (ZD rfl rfl) I0 I0 (kN 108 [(1,.box 70 (En.cfV sx c)),(2,.box 70 [iv 0,iv 0,iv 0,iv 0,iv 0,iv 0,iv 0,iv 0,iv 0,iv 0,iv 0,iv 0,iv 0,iv 0,iv 0,iv 0])] [(0,.el (En.sysP p n t f) 0),(4,.box 1 0),(5,.el ([iv r,iv i,iv kp]) 0),(6,.box 2 0),(7,.el (p.rules.flatMap cRu) (r*18)),(24,bv (decide (p.rules[r].kind=3)))] (Zd ?_)))))))))))
 refine t_cut (True) (ofL [(1,.box 70 (En.cfV sx (Ap.wst c (Ap.st0 c p.rules[r])))),(2,.box 70 [iv 0,iv 0,iv 0,iv 0,iv 0,iv 0,iv 0,iv 0,iv 0,iv 0,iv 0,iv 0,iv 0,iv 0,iv 0,iv 0])]) (ofT 108 [(0,.el (En.sysP p n t f) 0),(4,.box 1 0),(5,.el ([iv r,iv i,iv kp]) 0),(6,.box 2 0),(7,.el (p.rules.flatMap cRu) (r*18))]) ?_ (fun _ => ?_)
 by_cases hs1:p.rules[r].kind=3
 rw [dT hs1]
 refine kW 108 [(1,.box 70 (En.cfV sx c)),(2,.box 70 [iv 0,iv 0,iv 0,iv 0,iv 0,iv 0,iv 0,iv 0,iv 0,iv 0,iv 0,iv 0,iv 0,iv 0,iv 0,iv 0])] [(0,.el (En.sysP p n t f) 0),(4,.box 1 0),(5,.el ([iv r,iv i,iv kp]) 0),(6,.box 2 0),(7,.el (p.rules.flatMap cRu) (r*18)),(24,bT)] (Zq rfl (Zb (Za (oA (fb 1 4 U70 8) I0 (pM (mT 0 (.el (En.sysP p n t f) 0)) (oA (Zm (off:=0) (.tmp 26) rfl) I0 (oA (fe 13 27 U94 1) I0 (oA (lE (iv (Ns.cntE p n f)) 28 U3) I0 (oC (sp_sliceBoxH (n:=c.st.length) (.tmp 25) (.tmp 29) rfl U66 (by kernel_rfl) (by omega) rfl hn) I0 I0 (oA (sp_lenBsl (.tmp 30) rfl U24) I0 (pM (YX (.const (.int .i64 0)) (iv 0) rfl) (kN 108 [(1,.box 70 (En.cfV sx c)),(2,.box 70 [iv 0,iv 0,iv 0,iv 0,iv 0,iv 0,iv 0,iv 0,iv 0,iv 0,iv 0,iv 0,iv 0,iv 0,iv 0,iv 0])] [(0,.el (En.sysP p n t f) 0),(4,.box 1 0),(5,.el ([iv r,iv i,iv kp]) 0),(6,.box 2 0),(7,.el (p.rules.flatMap cRu) (r*18)),(30,.bsl 1 1 c.st.length),(31,iv c.st.length),(32,iv 0)] (Zd (ZA ?_))))))))))))))
 rw [show En.cfV sx c=En.cfV sx (Ap.wst c (Ap.brL p.rules[r] c.st 0)) by rw [Ap.brL_zero];rfl]
 refine Yx (σ:={j:Nat // j≤c.st.length}) (fun s=>(ofL [(1,.box 70 (En.cfV sx (Ap.wst c (Ap.brL p.rules[r] c.st s.1)))),(2,.box 70 [iv 0,iv 0,iv 0,iv 0,iv 0,iv 0,iv 0,iv 0,iv 0,iv 0,iv 0,iv 0,iv 0,iv 0,iv 0,iv 0])],ofT 108 [(0,.el (En.sysP p n t f) 0),(4,.box 1 0),(5,.el ([iv r,iv i,iv kp]) 0),(6,.box 2 0),(7,.el (p.rules.flatMap cRu) (r*18)),(30,.bsl 1 1 c.st.length),(31,iv c.st.length),(32,iv s.1)])) (fun s=>c.st.length-s.1) ⟨0,Nat.zero_le _⟩ (ZC _ _ rfl (by kernel_rfl) (by kernel_rfl)) (fun s => ?_)
 obtain ⟨j,hj0⟩:=s
 show ETri J w0 (ofL [(1,.box 70 (En.cfV sx (Ap.wst c (Ap.brL p.rules[r] c.st j)))),(2,.box 70 [iv 0,iv 0,iv 0,iv 0,iv 0,iv 0,iv 0,iv 0,iv 0,iv 0,iv 0,iv 0,iv 0,iv 0,iv 0,iv 0])]) (ofT 108 [(0,.el (En.sysP p n t f) 0),(4,.box 1 0),(5,.el ([iv r,iv i,iv kp]) 0),(6,.box 2 0),(7,.el (p.rules.flatMap cRu) (r*18)),(30,.bsl 1 1 c.st.length),(31,iv c.st.length),(32,iv j)]) _
 refine Zb ?_
 by_cases hs2:((j:Nat):Int)<((c.st.length:Nat):Int)
 have hj1:j<c.st.length:=by omega
 have hst:=Ap.cst_in hc hj1
 have hre:=R.re (by assumption)
 have hrs:(c.st.getD j 0).toNat<p.rules[r].resp.length:=by omega
 refine Za (oC (ZZ rfl (dT hs2)) I0 I0 (Ze (Zd (Zb (Zq rfl (Zp (Zd (Zb (ZA (Zb (Za (pM (mT 32 (iv j)) (oC (sp_indexBsl (off':=1+j*1) (.tmp 30) (.tmp 32) rfl U24 (by kernel_rfl) (by omega) (by omega) rfl) I0 I0 (oB (lB (.box 70 (En.cfV sx (Ap.wst c (Ap.brL p.rules[r] c.st j)))) (iv (c.st.getD j 0)) (.tmp 35) rfl U3 rfl (Ap.br_load hj1 l8)) I0 rfl (pM (aT 34 (iv j)) (pM (aT 36 (iv (c.st.getD j 0))) (Ze (Zd (Za (pM (mT 8 (iv j)) (pM (mT 7 (.el (p.rules.flatMap cRu) (r*18))) (oA (Zm (off:=r*18) (.tmp 38) rfl) I0 (oA (fe (r*18+6) 39 U55 1) I0 ?_)))))))))))))))))))))))
 refine oA (lE (Zc p.rules[r].resp) 40 U24 ((Zu lenRu p.rules r 6 (by omega) (by decide)).trans rfl)) I0 (pM (mT 9 (iv (c.st.getD j 0))) (oC (xS (((c.st.getD j 0).toNat)*1) 41 42 U24) I0 I0 (oA (lE (iv (p.rules[r].resp[(c.st.getD j 0).toNat])) 43 U3 (map_at1 p.rules[r].resp (by omega))) I0 (oA (fb 1 4 U70 8) I0 (oC (Z7 (off':=1+j*1) (.tmp 45) (.tmp 37) rfl U66 (by kernel_rfl) (by omega) (by omega) rfl) I0 I0 (ZM rfl (Zw (T0:=70) (X:=iv (p.rules[r].resp[(c.st.getD j 0).toNat])) (off:=1+j*1) (cs:=En.cfV sx (Ap.wst c (Ap.brL p.rules[r] c.st j))) (ds:=En.cfV sx (Ap.wst c (Ap.brL p.rules[r] c.st (j+1)))) (z:=1) (.tmp 46) (.tmp 44) rfl (by kernel_rfl) (by kernel_rfl) (by kernel_rfl) (by show _≤16;omega) (Ap.br_step hj1 l8 (Ap.brd_at hrs))) ⟨I0,I0,T0⟩ ⟨rfl,T0⟩ rfl (Ze (ZU (Zd (Za (oC (Yg (c:=((j+1:Nat):Int)) rfl (w64 (by omega) (by omega) (by omega))) I0 I0 (pM (mT 47 (iv (j+1:Nat))) (kN 108 [(1,.box 70 (En.cfV sx (Ap.wst c (Ap.brL p.rules[r] c.st (j+1))))),(2,.box 70 [iv 0,iv 0,iv 0,iv 0,iv 0,iv 0,iv 0,iv 0,iv 0,iv 0,iv 0,iv 0,iv 0,iv 0,iv 0,iv 0])] [(0,.el (En.sysP p n t f) 0),(4,.box 1 0),(5,.el ([iv r,iv i,iv kp]) 0),(6,.box 2 0),(7,.el (p.rules.flatMap cRu) (r*18)),(8,iv j),(9,iv (c.st.getD j 0)),(30,.bsl 1 1 c.st.length),(31,iv c.st.length),(32,iv (j+1:Nat)),(33,bT)] (Zd ?_))))))))))))))
 refine ZW ⟨j+1,by omega⟩ (show c.st.length-(j+1)<c.st.length-j by omega) ?_
 show Wk _ _ (ofL [(1,.box 70 (En.cfV sx (Ap.wst c (Ap.brL p.rules[r] c.st (j+1))))),(2,.box 70 [iv 0,iv 0,iv 0,iv 0,iv 0,iv 0,iv 0,iv 0,iv 0,iv 0,iv 0,iv 0,iv 0,iv 0,iv 0,iv 0])]) (ofT 108 [(0,.el (En.sysP p n t f) 0),(4,.box 1 0),(5,.el ([iv r,iv i,iv kp]) 0),(6,.box 2 0),(7,.el (p.rules.flatMap cRu) (r*18)),(30,.bsl 1 1 c.st.length),(31,iv c.st.length),(32,iv ((j+1):Nat))])
 exact ZC _ _ rfl (by kernel_rfl) (by kernel_rfl)
 refine Za (oC (ZZ rfl (dF hs2)) I0 I0 (kN 108 [(1,.box 70 (En.cfV sx (Ap.wst c (Ap.brL p.rules[r] c.st j)))),(2,.box 70 [iv 0,iv 0,iv 0,iv 0,iv 0,iv 0,iv 0,iv 0,iv 0,iv 0,iv 0,iv 0,iv 0,iv 0,iv 0,iv 0])] [(0,.el (En.sysP p n t f) 0),(4,.box 1 0),(5,.el ([iv r,iv i,iv kp]) 0),(6,.box 2 0),(7,.el (p.rules.flatMap cRu) (r*18)),(30,.bsl 1 1 c.st.length),(31,iv c.st.length),(32,iv j),(33,bF)] (Zd (Zb (Zs rfl (Yp (Zy (Zy (t_hit ?_)))))))))
 rw [show En.cfV sx (Ap.wst c (Ap.st0 c p.rules[r]))=En.cfV sx (Ap.wst c (Ap.brL p.rules[r] c.st j)) by rw [Ap.brL_all _ _ (by omega)];unfold Ap.st0;rw [if_pos hs1]]
 exact Y1 T0 (ZC _ _ rfl (by kernel_rfl) (by kernel_rfl))
 rw [dF hs1]
 refine kW 108 [(1,.box 70 (En.cfV sx c)),(2,.box 70 [iv 0,iv 0,iv 0,iv 0,iv 0,iv 0,iv 0,iv 0,iv 0,iv 0,iv 0,iv 0,iv 0,iv 0,iv 0,iv 0])] [(0,.el (En.sysP p n t f) 0),(4,.box 1 0),(5,.el ([iv r,iv i,iv kp]) 0),(6,.box 2 0),(7,.el (p.rules.flatMap cRu) (r*18)),(24,bF)] (Zs rfl (Zp ?_))
 rw [show En.cfV sx (Ap.wst c (Ap.st0 c p.rules[r]))=En.cfV sx c by unfold Ap.st0;rw [if_neg hs1];rfl]
 exact Y1 T0 (ZC _ _ rfl (by kernel_rfl) (by kernel_rfl))
 refine Zd (Zb ?_)
 refine Zr (dA (fe 1 5 U49 1) I0 (dA (lE (iv i) 48 U3) I0 (dM (mT 7 (.el (p.rules.flatMap cRu) (r*18))) (dA (Zm (off:=r*18) (.tmp 50) rfl) I0 (dA (fe (r*18+3) 51 U55 1) I0 (dA (lE (iv p.rules[r].to) 52 U3 ((Zu lenRu p.rules r 3 (by omega) (by decide)).trans rfl)) I0 (dA (fb 1 4 U70 8) I0 (dC (Z7 (off':=1+i*1) (.tmp 54) (.tmp 49) rfl U66 (by kernel_rfl) (by omega) (by omega) rfl) I0 I0 (dR (Zw (T0:=70) (X:=iv p.rules[r].to) (off:=1+i*1) (cs:=En.cfV sx (Ap.wst c (Ap.st0 c p.rules[r]))) (ds:=En.cfV sx (Ap.wst c (Ap.st1 c p.rules[r] i))) (z:=1) (.tmp 55) (.tmp 53) rfl (by kernel_rfl) (by kernel_rfl) (by kernel_rfl) (by show _≤16;omega) (Ap.cfV_setSt (c:=(Ap.wst c (Ap.st0 c p.rules[r]))) (by omega) (by show i<(Ap.st0 c p.rules[r]).length;rw [Ap.st0_len];exact hi))) ⟨I0,I0,T0⟩ ⟨rfl,T0⟩ rfl (dE ?_)))))))))) (by kernel_rfl)
 show ETri J w0 _ _ _
 refine kW 108 [(1,.box 70 (En.cfV sx (Ap.wst c (Ap.st1 c p.rules[r] i)))),(2,.box 70 [iv 0,iv 0,iv 0,iv 0,iv 0,iv 0,iv 0,iv 0,iv 0,iv 0,iv 0,iv 0,iv 0,iv 0,iv 0,iv 0])] [(0,.el (En.sysP p n t f) 0),(4,.box 1 0),(5,.el ([iv r,iv i,iv kp]) 0),(6,.box 2 0),(7,.el (p.rules.flatMap cRu) (r*18))] (Zd (Zb (Zb (Za (pM (mT 7 (.el (p.rules.flatMap cRu) (r*18))) (oC (sc #[.tmp 56] [] (hasPart_c hr) [.el (p.rules.flatMap cRu) (r*18)] rfl rfl rfl) I0 I0 (kN 108 [(1,.box 70 (En.cfV sx (Ap.wst c (Ap.st1 c p.rules[r] i)))),(2,.box 70 [iv 0,iv 0,iv 0,iv 0,iv 0,iv 0,iv 0,iv 0,iv 0,iv 0,iv 0,iv 0,iv 0,iv 0,iv 0,iv 0])] [(0,.el (En.sysP p n t f) 0),(4,.box 1 0),(5,.el ([iv r,iv i,iv kp]) 0),(6,.box 2 0),(7,.el (p.rules.flatMap cRu) (r*18)),(57,bv (decide (p.rules[r].kind=2)||decide (p.rules[r].kind=5)))] (Zd ?_))))))))
 refine t_cut (True) (ofL [(1,.box 70 (En.cfV sx (Ap.mid (n-f) c p.rules[r] i kp 0))),(2,.box 70 [iv 0,iv 0,iv 0,iv 0,iv 0,iv 0,iv 0,iv 0,iv 0,iv 0,iv 0,iv 0,iv 0,iv 0,iv 0,iv 0])]) (ofT 108 [(0,.el (En.sysP p n t f) 0),(4,.box 1 0),(5,.el ([iv r,iv i,iv kp]) 0),(6,.box 2 0),(7,.el (p.rules.flatMap cRu) (r*18))]) ?_ (fun _ => ?_)
 by_cases hs3:(decide (p.rules[r].kind=2)||decide (p.rules[r].kind=5))=true
 have hkp:=hpt (En.or_t hs3)
 rw [hs3]
 refine kW 108 [(1,.box 70 (En.cfV sx (Ap.wst c (Ap.st1 c p.rules[r] i)))),(2,.box 70 [iv 0,iv 0,iv 0,iv 0,iv 0,iv 0,iv 0,iv 0,iv 0,iv 0,iv 0,iv 0,iv 0,iv 0,iv 0,iv 0])] [(0,.el (En.sysP p n t f) 0),(4,.box 1 0),(5,.el ([iv r,iv i,iv kp]) 0),(6,.box 2 0),(7,.el (p.rules.flatMap cRu) (r*18)),(57,bT)] (Zq rfl ?_)
 refine Zr (dA (fe 2 5 U49 1) I0 (dA (lE (iv kp) 58 U3) I0 (dM (mT 7 (.el (p.rules.flatMap cRu) (r*18))) (dA (Zm (off:=r*18) (.tmp 60) rfl) I0 (dA (fe (r*18+5) 61 U55 1) I0 (dA (lE (iv p.rules[r].pt) 62 U3 ((Zu lenRu p.rules r 5 (by omega) (by decide)).trans rfl)) I0 (dA (fb 1 4 U70 8) I0 (dC (Z7 (off':=1+kp.toNat*1) (.tmp 64) (.tmp 59) rfl U66 (by kernel_rfl) (by omega) (by omega) rfl) I0 I0 (dR (Zw (T0:=70) (X:=iv p.rules[r].pt) (off:=1+kp.toNat*1) (cs:=En.cfV sx (Ap.wst c (Ap.st1 c p.rules[r] i))) (ds:=En.cfV sx (Ap.wst c ((Ap.st1 c p.rules[r] i).set kp.toNat p.rules[r].pt))) (z:=1) (.tmp 65) (.tmp 63) rfl (by kernel_rfl) (by kernel_rfl) (by kernel_rfl) (by show _≤16;omega) (Ap.cfV_setSt (c:=(Ap.wst c (Ap.st1 c p.rules[r] i))) (by omega) (by show kp.toNat<(Ap.st1 c p.rules[r] i).length;rw [Ap.st1_len];omega))) ⟨I0,I0,T0⟩ ⟨rfl,T0⟩ rfl (dE ?_)))))))))) (by kernel_rfl)
 show ETri J w0 _ _ _
 refine kW 108 [(1,.box 70 (En.cfV sx (Ap.wst c ((Ap.st1 c p.rules[r] i).set kp.toNat p.rules[r].pt)))),(2,.box 70 [iv 0,iv 0,iv 0,iv 0,iv 0,iv 0,iv 0,iv 0,iv 0,iv 0,iv 0,iv 0,iv 0,iv 0,iv 0,iv 0])] [(0,.el (En.sysP p n t f) 0),(4,.box 1 0),(5,.el ([iv r,iv i,iv kp]) 0),(6,.box 2 0),(7,.el (p.rules.flatMap cRu) (r*18))] ?_
 rw [show En.cfV sx (Ap.mid (n-f) c p.rules[r] i kp 0)=En.cfV sx (Ap.wst c ((Ap.st1 c p.rules[r] i).set kp.toNat p.rules[r].pt)) by rw [Ap.mid_zero];unfold Ap.stA;rw [if_pos (En.or_t hs3)]]
 exact Y1 T0 (ZC _ _ rfl (by kernel_rfl) (by kernel_rfl))
 have hs3f:(decide (p.rules[r].kind=2)||decide (p.rules[r].kind=5))=false:=by simpa using hs3
 rw [hs3f]
 refine kW 108 [(1,.box 70 (En.cfV sx (Ap.wst c (Ap.st1 c p.rules[r] i)))),(2,.box 70 [iv 0,iv 0,iv 0,iv 0,iv 0,iv 0,iv 0,iv 0,iv 0,iv 0,iv 0,iv 0,iv 0,iv 0,iv 0,iv 0])] [(0,.el (En.sysP p n t f) 0),(4,.box 1 0),(5,.el ([iv r,iv i,iv kp]) 0),(6,.box 2 0),(7,.el (p.rules.flatMap cRu) (r*18)),(57,bF)] (Zs rfl (Zp ?_))
 rw [show En.cfV sx (Ap.mid (n-f) c p.rules[r] i kp 0)=En.cfV sx (Ap.wst c (Ap.st1 c p.rules[r] i)) by rw [Ap.mid_zero];unfold Ap.stA;rw [if_neg (En.or_f hs3f)]]
 exact Y1 T0 (ZC _ _ rfl (by kernel_rfl) (by kernel_rfl))
 refine Zd (Zb (Zb (Za (pM (mT 7 (.el (p.rules.flatMap cRu) (r*18))) (oA (Zm (off:=r*18) (.tmp 66) rfl) I0 (oA (fe (r*18+12) 67 U55 1) I0 (oA (lE (Zc p.rules[r].send) 68 U24 ((Zu lenRu p.rules r 12 (by omega) (by decide)).trans rfl)) I0 (oA (nS 69 U24) I0 (pM (YX (.const (.int .i64 0)) (iv 0) rfl) (kN 108 [(1,.box 70 (En.cfV sx (Ap.mid (n-f) c p.rules[r] i kp 0))),(2,.box 70 [iv 0,iv 0,iv 0,iv 0,iv 0,iv 0,iv 0,iv 0,iv 0,iv 0,iv 0,iv 0,iv 0,iv 0,iv 0,iv 0])] [(0,.el (En.sysP p n t f) 0),(4,.box 1 0),(5,.el ([iv r,iv i,iv kp]) 0),(6,.box 2 0),(7,.el (p.rules.flatMap cRu) (r*18)),(69,Zc p.rules[r].send),(70,iv (p.rules[r].send.length:Nat)),(71,iv 0)] (Zd (ZA ?_))))))))))))
 refine Yx (σ:={k:Nat // k≤p.rules[r].send.length}) (fun s=>(ofL [(1,.box 70 (En.cfV sx (Ap.mid (n-f) c p.rules[r] i kp s.1))),(2,.box 70 [iv 0,iv 0,iv 0,iv 0,iv 0,iv 0,iv 0,iv 0,iv 0,iv 0,iv 0,iv 0,iv 0,iv 0,iv 0,iv 0])],ofT 108 [(0,.el (En.sysP p n t f) 0),(4,.box 1 0),(5,.el ([iv r,iv i,iv kp]) 0),(6,.box 2 0),(7,.el (p.rules.flatMap cRu) (r*18)),(69,Zc p.rules[r].send),(70,iv (p.rules[r].send.length:Nat)),(71,iv s.1)])) (fun s=>p.rules[r].send.length-s.1) ⟨0,Nat.zero_le _⟩ (ZC _ _ rfl (by kernel_rfl) (by kernel_rfl)) (fun s => ?_)
 obtain ⟨k,hk0⟩:=s
 show ETri J w0 (ofL [(1,.box 70 (En.cfV sx (Ap.mid (n-f) c p.rules[r] i kp k))),(2,.box 70 [iv 0,iv 0,iv 0,iv 0,iv 0,iv 0,iv 0,iv 0,iv 0,iv 0,iv 0,iv 0,iv 0,iv 0,iv 0,iv 0])]) (ofT 108 [(0,.el (En.sysP p n t f) 0),(4,.box 1 0),(5,.el ([iv r,iv i,iv kp]) 0),(6,.box 2 0),(7,.el (p.rules.flatMap cRu) (r*18)),(69,Zc p.rules[r].send),(70,iv (p.rules[r].send.length:Nat)),(71,iv k)]) _
 refine Zb ?_
 by_cases hs4:((k:Nat):Int)<((p.rules[r].send.length:Nat):Int)
 have hk1:k<p.rules[r].send.length:=by omega
 have hsm:=R.se _ (List.getElem_mem hk1)
 have hb1:=Ap.getD_in (Ap.seA_in (cor:=(n-f)) (r:=p.rules[r]) (i:=i) (k:=k) hc.se) (by omega) p.rules[r].send[k].toNat
 have hb2:=Ap.getD_in (Ap.faA_in (cor:=(n-f)) (r:=p.rules[r]) (i:=i) (k:=k) hc.fa) (by omega) p.rules[r].send[k].toNat
 refine Za (oC (ZZ rfl (dT hs4)) I0 I0 (Ze (Zd (Zb (Zq rfl (Zp (Zd (Zb (ZA (Zb (Za (oC (xS (k*1) 69 71 U24) I0 I0 (oA (lE (iv p.rules[r].send[k]) 73 U3 (map_at1 p.rules[r].send (by omega))) I0 (pM (aT 74 (iv p.rules[r].send[k])) (Ze (Zd (Zb ?_)))))))))))))))))
 by_cases hs5:((i:Nat):Int)<(n-f)
 refine Zr (dA (fe 1 5 U49 1) I0 (dA (lE (iv i) 75 U3) I0 (dM (mT 0 (.el (En.sysP p n t f) 0)) (dA (Zm (off:=0) (.tmp 77) rfl) I0 (dA (fe 14 78 U94 1) I0 (dA (lE (iv (n-f)) 79 U3) I0 (dC (ZZ rfl (dT hs5)) I0 I0 (dE ?_)))))))) (by kernel_rfl)
 show ETri J w0 _ _ _
 refine kW 108 [(1,.box 70 (En.cfV sx (Ap.mid (n-f) c p.rules[r] i kp k))),(2,.box 70 [iv 0,iv 0,iv 0,iv 0,iv 0,iv 0,iv 0,iv 0,iv 0,iv 0,iv 0,iv 0,iv 0,iv 0,iv 0,iv 0])] [(0,.el (En.sysP p n t f) 0),(4,.box 1 0),(5,.el ([iv r,iv i,iv kp]) 0),(6,.box 2 0),(7,.el (p.rules.flatMap cRu) (r*18)),(11,iv p.rules[r].send[k]),(69,Zc p.rules[r].send),(70,iv (p.rules[r].send.length:Nat)),(71,iv k),(72,bT),(81,bT)] (Zd (Zq rfl (Za (pM (mT 11 (iv p.rules[r].send[k])) (oA (fb 9 4 U70 3) I0 (oC (Z7 (off':=9+p.rules[r].send[k].toNat*1) (.tmp 83) (.tmp 82) rfl U68 (by kernel_rfl) (by omega) (by omega) rfl) I0 I0 (oB (lB (.box 70 (En.cfV sx (Ap.mid (n-f) c p.rules[r] i kp k))) (iv ((Ap.seA (n-f) c p.rules[r] i k).getD p.rules[r].send[k].toNat 0)) (.tmp 84) rfl U3 rfl (Ap.cfV_se (c:=(Ap.mid (n-f) c p.rules[r] i kp k)) (by omega))) I0 rfl (oC (Yg (c:=((Ap.seA (n-f) c p.rules[r] i k).getD p.rules[r].send[k].toNat 0)+1) rfl (w64 (by omega) (by omega) (by omega))) I0 I0 (oA (fb 9 4 U70 3) I0 (oC (Z7 (off':=9+p.rules[r].send[k].toNat*1) (.tmp 87) (.tmp 82) rfl U68 (by kernel_rfl) (by omega) (by omega) rfl) I0 I0 (ZM rfl (Zw (T0:=70) (X:=iv (((Ap.seA (n-f) c p.rules[r] i k).getD p.rules[r].send[k].toNat 0)+1)) (off:=9+p.rules[r].send[k].toNat*1) (cs:=En.cfV sx (Ap.mid (n-f) c p.rules[r] i kp k)) (ds:=En.cfV sx (Ap.mid (n-f) c p.rules[r] i kp (k+1))) (z:=1) (.tmp 88) (.tmp 86) rfl (by kernel_rfl) (by kernel_rfl) (by kernel_rfl) (by show _≤16;omega) (Ap.se_step hs5 hk1 (by omega) (by omega))) ⟨I0,I0,T0⟩ ⟨rfl,T0⟩ rfl (Ze (ZU (Zd (Za (oC (Yg (c:=((k+1:Nat):Int)) rfl (w64 (by omega) (by omega) (by omega))) I0 I0 (pM (mT 96 (iv (k+1:Nat))) (kN 108 [(1,.box 70 (En.cfV sx (Ap.mid (n-f) c p.rules[r] i kp (k+1)))),(2,.box 70 [iv 0,iv 0,iv 0,iv 0,iv 0,iv 0,iv 0,iv 0,iv 0,iv 0,iv 0,iv 0,iv 0,iv 0,iv 0,iv 0])] [(0,.el (En.sysP p n t f) 0),(4,.box 1 0),(5,.el ([iv r,iv i,iv kp]) 0),(6,.box 2 0),(7,.el (p.rules.flatMap cRu) (r*18)),(11,iv p.rules[r].send[k]),(69,Zc p.rules[r].send),(70,iv (p.rules[r].send.length:Nat)),(71,iv (k+1:Nat)),(72,bT),(81,bT)] (Zd ?_)))))))))))))))))))
 refine ZW ⟨k+1,by omega⟩ (show p.rules[r].send.length-(k+1)<p.rules[r].send.length-k by omega) ?_
 show Wk _ _ (ofL [(1,.box 70 (En.cfV sx (Ap.mid (n-f) c p.rules[r] i kp (k+1)))),(2,.box 70 [iv 0,iv 0,iv 0,iv 0,iv 0,iv 0,iv 0,iv 0,iv 0,iv 0,iv 0,iv 0,iv 0,iv 0,iv 0,iv 0])]) (ofT 108 [(0,.el (En.sysP p n t f) 0),(4,.box 1 0),(5,.el ([iv r,iv i,iv kp]) 0),(6,.box 2 0),(7,.el (p.rules.flatMap cRu) (r*18)),(69,Zc p.rules[r].send),(70,iv (p.rules[r].send.length:Nat)),(71,iv ((k+1):Nat))])
 exact ZC _ _ rfl (by kernel_rfl) (by kernel_rfl)
 refine Zr (dA (fe 1 5 U49 1) I0 (dA (lE (iv i) 75 U3) I0 (dM (mT 0 (.el (En.sysP p n t f) 0)) (dA (Zm (off:=0) (.tmp 77) rfl) I0 (dA (fe 14 78 U94 1) I0 (dA (lE (iv (n-f)) 79 U3) I0 (dC (ZZ rfl (dF hs5)) I0 I0 (dE ?_)))))))) (by kernel_rfl)
 show ETri J w0 _ _ _
 refine kW 108 [(1,.box 70 (En.cfV sx (Ap.mid (n-f) c p.rules[r] i kp k))),(2,.box 70 [iv 0,iv 0,iv 0,iv 0,iv 0,iv 0,iv 0,iv 0,iv 0,iv 0,iv 0,iv 0,iv 0,iv 0,iv 0,iv 0])] [(0,.el (En.sysP p n t f) 0),(4,.box 1 0),(5,.el ([iv r,iv i,iv kp]) 0),(6,.box 2 0),(7,.el (p.rules.flatMap cRu) (r*18)),(11,iv p.rules[r].send[k]),(69,Zc p.rules[r].send),(70,iv (p.rules[r].send.length:Nat)),(71,iv k),(72,bT),(81,bF)] (Zd (Zs rfl (Za (pM (mT 11 (iv p.rules[r].send[k])) (oA (fb 12 4 U70 3) I0 (oC (Z7 (off':=12+p.rules[r].send[k].toNat*1) (.tmp 90) (.tmp 89) rfl U68 (by kernel_rfl) (by omega) (by omega) rfl) I0 I0 (oB (lB (.box 70 (En.cfV sx (Ap.mid (n-f) c p.rules[r] i kp k))) (iv ((Ap.faA (n-f) c p.rules[r] i k).getD p.rules[r].send[k].toNat 0)) (.tmp 91) rfl U3 rfl (En.cfV_fa (c:=(Ap.mid (n-f) c p.rules[r] i kp k)) (by omega))) I0 rfl (oC (Yg (c:=((Ap.faA (n-f) c p.rules[r] i k).getD p.rules[r].send[k].toNat 0)+1) rfl (w64 (by omega) (by omega) (by omega))) I0 I0 (oA (fb 12 4 U70 3) I0 (oC (Z7 (off':=12+p.rules[r].send[k].toNat*1) (.tmp 94) (.tmp 89) rfl U68 (by kernel_rfl) (by omega) (by omega) rfl) I0 I0 (ZM rfl (Zw (T0:=70) (X:=iv (((Ap.faA (n-f) c p.rules[r] i k).getD p.rules[r].send[k].toNat 0)+1)) (off:=12+p.rules[r].send[k].toNat*1) (cs:=En.cfV sx (Ap.mid (n-f) c p.rules[r] i kp k)) (ds:=En.cfV sx (Ap.mid (n-f) c p.rules[r] i kp (k+1))) (z:=1) (.tmp 95) (.tmp 93) rfl (by kernel_rfl) (by kernel_rfl) (by kernel_rfl) (by show _≤16;omega) (Ap.fa_step hs5 hk1 (by omega) (by omega))) ⟨I0,I0,T0⟩ ⟨rfl,T0⟩ rfl (Ze (ZU (Zd (Za (oC (Yg (c:=((k+1:Nat):Int)) rfl (w64 (by omega) (by omega) (by omega))) I0 I0 (pM (mT 96 (iv (k+1:Nat))) (kN 108 [(1,.box 70 (En.cfV sx (Ap.mid (n-f) c p.rules[r] i kp (k+1)))),(2,.box 70 [iv 0,iv 0,iv 0,iv 0,iv 0,iv 0,iv 0,iv 0,iv 0,iv 0,iv 0,iv 0,iv 0,iv 0,iv 0,iv 0])] [(0,.el (En.sysP p n t f) 0),(4,.box 1 0),(5,.el ([iv r,iv i,iv kp]) 0),(6,.box 2 0),(7,.el (p.rules.flatMap cRu) (r*18)),(11,iv p.rules[r].send[k]),(69,Zc p.rules[r].send),(70,iv (p.rules[r].send.length:Nat)),(71,iv (k+1:Nat)),(72,bT),(81,bF)] (Zd ?_)))))))))))))))))))
 refine ZW ⟨k+1,by omega⟩ (show p.rules[r].send.length-(k+1)<p.rules[r].send.length-k by omega) ?_
 show Wk _ _ (ofL [(1,.box 70 (En.cfV sx (Ap.mid (n-f) c p.rules[r] i kp (k+1)))),(2,.box 70 [iv 0,iv 0,iv 0,iv 0,iv 0,iv 0,iv 0,iv 0,iv 0,iv 0,iv 0,iv 0,iv 0,iv 0,iv 0,iv 0])]) (ofT 108 [(0,.el (En.sysP p n t f) 0),(4,.box 1 0),(5,.el ([iv r,iv i,iv kp]) 0),(6,.box 2 0),(7,.el (p.rules.flatMap cRu) (r*18)),(69,Zc p.rules[r].send),(70,iv (p.rules[r].send.length:Nat)),(71,iv ((k+1):Nat))])
 exact ZC _ _ rfl (by kernel_rfl) (by kernel_rfl)
 refine Za (oC (ZZ rfl (dF hs4)) I0 I0 (Ze (Zd (Zb (Zs rfl (Yp (Zy (Zy (t_hit (Zd (Zb (Zb ?_))))))))))))
 by_cases hs6:0≤p.rules[r].wr
 refine Za (pM (mT 7 (.el (p.rules.flatMap cRu) (r*18))) (oA (Zm (off:=r*18) (.tmp 97) rfl) I0 (oA (fe (r*18+11) 98 U55 1) I0 (oA (lE (iv p.rules[r].wr) 99 U3 ((Zu lenRu p.rules r 11 (by omega) (by decide)).trans rfl)) I0 (oC (YZ rfl (dT hs6)) I0 I0 (Ze (Zd (Zq rfl (Za (pM (mT 7 (.el (p.rules.flatMap cRu) (r*18))) (oA (Zm (off:=r*18) (.tmp 102) rfl) I0 (oA (fe (r*18+11) 103 U55 1) I0 (oA (lE (iv p.rules[r].wr) 104 U3 ((Zu lenRu p.rules r 11 (by omega) (by decide)).trans rfl)) I0 (oA (fb 15 4 U70 1) I0 (ZM rfl (sB 1 106 (.tmp 105) (iv p.rules[r].wr)) ⟨I0,I0,T0⟩ ⟨rfl,T0⟩ rfl (Ze (Zd (Zb (Za (oB (lS ([iv sx,iv ((Ap.mid (n-f) c p.rules[r] i kp k).st.getD 0 0),iv ((Ap.mid (n-f) c p.rules[r] i kp k).st.getD 1 0),iv ((Ap.mid (n-f) c p.rules[r] i kp k).st.getD 2 0),iv ((Ap.mid (n-f) c p.rules[r] i kp k).st.getD 3 0),iv ((Ap.mid (n-f) c p.rules[r] i kp k).st.getD 4 0),iv ((Ap.mid (n-f) c p.rules[r] i kp k).st.getD 5 0),iv ((Ap.mid (n-f) c p.rules[r] i kp k).st.getD 6 0),iv ((Ap.mid (n-f) c p.rules[r] i kp k).st.getD 7 0),iv ((Ap.mid (n-f) c p.rules[r] i kp k).se.getD 0 0),iv ((Ap.mid (n-f) c p.rules[r] i kp k).se.getD 1 0),iv ((Ap.mid (n-f) c p.rules[r] i kp k).se.getD 2 0),iv ((Ap.mid (n-f) c p.rules[r] i kp k).fa.getD 0 0),iv ((Ap.mid (n-f) c p.rules[r] i kp k).fa.getD 1 0),iv ((Ap.mid (n-f) c p.rules[r] i kp k).fa.getD 2 0),iv p.rules[r].wr]) 16 4 U70) I0 rfl (ZM rfl (sB 16 6 (.tmp 107) (.agg [iv sx,iv ((Ap.mid (n-f) c p.rules[r] i kp k).st.getD 0 0),iv ((Ap.mid (n-f) c p.rules[r] i kp k).st.getD 1 0),iv ((Ap.mid (n-f) c p.rules[r] i kp k).st.getD 2 0),iv ((Ap.mid (n-f) c p.rules[r] i kp k).st.getD 3 0),iv ((Ap.mid (n-f) c p.rules[r] i kp k).st.getD 4 0),iv ((Ap.mid (n-f) c p.rules[r] i kp k).st.getD 5 0),iv ((Ap.mid (n-f) c p.rules[r] i kp k).st.getD 6 0),iv ((Ap.mid (n-f) c p.rules[r] i kp k).st.getD 7 0),iv ((Ap.mid (n-f) c p.rules[r] i kp k).se.getD 0 0),iv ((Ap.mid (n-f) c p.rules[r] i kp k).se.getD 1 0),iv ((Ap.mid (n-f) c p.rules[r] i kp k).se.getD 2 0),iv ((Ap.mid (n-f) c p.rules[r] i kp k).fa.getD 0 0),iv ((Ap.mid (n-f) c p.rules[r] i kp k).fa.getD 1 0),iv ((Ap.mid (n-f) c p.rules[r] i kp k).fa.getD 2 0),iv p.rules[r].wr])) ⟨I0,I0,T0⟩ ⟨rfl,T0⟩ rfl (Ze (Zd ?_)))))))))))))))))))))))
 refine Zn ?_
 refine Zv Try.results38 (.cellS rfl rfl U70 rfl (z:=16) (by kernel_rfl) rfl (by decide)) ?_
 obtain rfl:k=p.rules[r].send.length:=by omega
 unfold Ap.af;rw [if_pos hs6]
 exact rfl
 refine Za (pM (mT 7 (.el (p.rules.flatMap cRu) (r*18))) (oA (Zm (off:=r*18) (.tmp 97) rfl) I0 (oA (fe (r*18+11) 98 U55 1) I0 (oA (lE (iv p.rules[r].wr) 99 U3 ((Zu lenRu p.rules r 11 (by omega) (by decide)).trans rfl)) I0 (oC (YZ rfl (dF hs6)) I0 I0 (Ze (Zd (Zs rfl (Zp (Zd (Zb (Za (oB (lS (En.cfV sx (Ap.mid (n-f) c p.rules[r] i kp k)) 16 4 U70) I0 rfl (ZM rfl (sB 16 6 (.tmp 107) (.agg (En.cfV sx (Ap.mid (n-f) c p.rules[r] i kp k)))) ⟨I0,I0,T0⟩ ⟨rfl,T0⟩ rfl (Ze (Zd (Zn ?_)))))))))))))))))
 refine Zv Try.results38 (.cellS rfl rfl U70 rfl (z:=16) (by kernel_rfl) rfl (by decide)) ?_
 obtain rfl:k=p.rules[r].send.length:=by omega
 unfold Ap.af;rw [if_neg hs6]
 exact rfl
theorem ownIc {F:Nat→Prop} {lo:Nat} {w:World} {v:Value} {xs:List Int} (h:OwnV lo w v xs):Pu F w (nw w lo) (Zc xs) v:=by
  rcases h with ⟨rfl,rfl⟩ | ⟨g,cap,rfl,hl,hm,h1,h2,h3,cur,t,hg,hc⟩
  · exact .sl0 (by simp [maxLen]) (by simp)
  refine .sl (b:=g) (off:=0) (f:=fun j => .int .i64 (xs.getD j 0)) (by simp) hl hm ⟨h1,_,_,hg⟩ (Array.getElem?_eq_some_iff.1 hg).1 (fun j hj => ?_) fun j hj => ?_
  · have hj':j<xs.length:=by simpa using hj
    rw [Nat.zero_add,ZS hg j (v := .int .i64 (xs.getD j 0)) (hc j hj')]
  have hj':j<xs.length:=by simpa using hj
  simp only [List.getElem_map,List.getD_eq_getElem?_getD,List.getElem?_eq_getElem hj',Option.getD_some]
  exact .v _
theorem Clone_p {xs:List Int} (hx:InOk xs) (hn:xs.length≤1000):Ctr Try.prog J 28 [Zc xs] (Zc xs):=ctr1 fun w v _ h =>
  (Clone_any (YK hx (fun _ _=>Nat.zero_le _) h) hn).mono fun _ _ ⟨v',he,ho,hb⟩=>⟨v',he,ownIc ho,hb⟩
set_option maxRecDepth 100000 in
set_option maxHeartbeats 6400000 in
theorem write_c {p:Fm} {n t f:Int} {c:Cf} {sx:Int} (ok:Rd.CgOk c) (hn:(Ns.cntE p n f)=((c.st.length:Nat):Int)) (l8:c.st.length≤8) (h3:p.msgs.length≤3) (hls:c.se.length=p.msgs.length) (hlf:c.fa.length=p.msgs.length) (hco:c.cor=(n-f)) (hsx:p.top=4→0≤sx∧sx<(((Ns.shT p.top (Ns.cntE p n f)).length:Nat):Int)∧(Ns.shT p.top (Ns.cntE p n f))[sx.toNat]? = some c.sh) (hs0:¬ p.top=4→c.sh=[]):Ctr Try.prog J 18 [.el (En.sysP p n t f) 0,.agg (En.cfV sx c)] (.agg (Rd.cCg c)):=by
 refine Zx Try.func18 rfl (by intro X hX;simp only [List.mem_cons,List.not_mem_nil,or_false] at hX;rcases hX with rfl | rfl;exact (show Plain (.el (En.sysP p n t f) 0) from .el (ZQ (En.plain_sysP p n t f)));exact Zk (En.plain_cfV _ c)) (n:=55) rfl (by simp) (fun w0 => ?_)
 refine kW 55 [] [(0,.el (En.sysP p n t f) 0),(1,.agg (En.cfV sx c))] (Zb (Za (oA (ZK (X := .agg (En.cfV sx c)) (.tmp 1) rfl rfl rfl) I0 (ZM rfl (ZT (z := .agg #[.slice none 0 0,.slice none 0 0,.int .i64 0,.slice none 0 0,.slice none 0 0,.int .i64 0]) (k:=1) rfl (by kernel_rfl)) T0 T0 rfl (Ze (Zd (Zb ?_)))))))
 refine Zr (dA (fe 1 3 U70 8) I0 (dM (mT 0 (.el (En.sysP p n t f) 0)) (dA (Zm (off:=0) (.tmp 7) rfl) I0 (dA (fe 13 8 U94 1) I0 (dA (lE (iv (Ns.cntE p n f)) 9 U3) I0 (dC (Kj (n:=c.st.length) (off:=1) (ds:=(c.st.map iv)) (.tmp 6) (.tmp 10) rfl U66 (by kernel_rfl) (by omega) (by kernel_rfl) (by unfold maxLen;omega) (by show _≤16;omega) (En.cfV_row l8) hn) I0 I0 (dC (sc #[.tmp 11] [] (Clone_p ok.st (Nat.le_trans ok.lst (by decide))) [Zc c.st] rfl rfl rfl) I0 I0 (dM (mT 0 (.el (En.sysP p n t f) 0)) (dA (Zm (off:=0) (.tmp 13) rfl) I0 (dA (fe 14 14 U94 1) I0 (dA (lE (iv (n-f)) 15 U3) I0 (dA (fe 9 3 U70 3) I0 (dM (mT 0 (.el (En.sysP p n t f) 0)) (dA (Zm (off:=0) (.tmp 18) rfl) I0 (dA (fe 0 19 U94 10) I0 (dA (fe 3 20 U27 1) I0 (dA (lE (ZH p.msgs) 21 U22) I0 (dA (nS 22 U22) I0 (dC (Kj (n:=c.se.length) (off:=9) (ds:=(c.se.map iv)) (.tmp 17) (.tmp 23) rfl U68 (by kernel_rfl) (by omega) (by kernel_rfl) (by unfold maxLen;omega) (by show _≤16;omega) (Ap.cfV_rowSe (by omega)) (by omega)) I0 I0 (dC (sc #[.tmp 24] [] (Clone_p ok.se (Nat.le_trans ok.lse (by decide))) [Zc c.se] rfl rfl rfl) I0 I0 (dA (fe 12 3 U70 3) I0 (dM (mT 0 (.el (En.sysP p n t f) 0)) (dA (Zm (off:=0) (.tmp 27) rfl) I0 (dA (fe 0 28 U94 10) I0 (dA (fe 3 29 U27 1) I0 (dA (lE (ZH p.msgs) 30 U22) I0 (dA (nS 31 U22) I0 (dC (Kj (n:=c.fa.length) (off:=12) (ds:=(c.fa.map iv)) (.tmp 26) (.tmp 32) rfl U68 (by kernel_rfl) (by omega) (by kernel_rfl) (by unfold maxLen;omega) (by show _≤16;omega) (Ap.cfV_rowFa (by omega)) (by omega)) I0 I0 (dC (sc #[.tmp 33] [] (Clone_p ok.fa (Nat.le_trans ok.lfa (by decide))) [Zc c.fa] rfl rfl rfl) I0 I0 (dA (fe 15 3 U70 1) I0 (dA (lE (iv c.val) 35 U3) I0 (dR (sp_bldN [1,2,3,4,5] [.tmp 12,.tmp 16,.tmp 25,.tmp 34,.tmp 36] [.fr (Zc c.st),iv (n-f),.fr (Zc c.se),.fr (Zc c.fa),iv c.val] [.inl (.slice none 0 0),.inr 0,.inr 1,.inr 2,.inr 3,.inr 4] rfl rfl rfl rfl rfl (fun _=>by kernel_rfl) rfl (ds:=[.v (.slice none 0 0),.fr (Zc c.st),iv (n-f),.fr (Zc c.se),.fr (Zc c.fa),iv c.val]) rfl) ⟨I0,I0,I0,I0,I0,T0⟩ T0 T0 (dR (ZT (z := .agg #[.slice none 0 0,.slice none 0 0,.int .i64 0,.slice none 0 0,.slice none 0 0,.int .i64 0]) (k:=2) rfl (by kernel_rfl)) T0 T0 rfl (dR (sB 6 5 (.tmp 37) (.agg [.v (.slice none 0 0),.fr (Zc c.st),iv (n-f),.fr (Zc c.se),.fr (Zc c.fa),iv c.val])) ⟨I0,I0,T0⟩ ⟨rfl,T0⟩ rfl (dE ?_))))))))))))))))))))))))))))))))))) (by kernel_rfl)
 show ETri J w0 _ _ _
 refine kW 55 [(1,.box 31 [.v (.slice none 0 0),.v (.slice none 0 0),iv 0,.v (.slice none 0 0),.v (.slice none 0 0),iv 0]),(2,.box 31 [.v (.slice none 0 0),.fr (Zc c.st),iv (n-f),.fr (Zc c.se),.fr (Zc c.fa),iv c.val])] [(0,.el (En.sysP p n t f) 0),(3,.el (En.cfV sx c) 0),(4,.box 1 0),(5,.box 2 0)] (Zd (Zb (Zb ?_)))
 by_cases hs1:0<(((Ns.shT p.top (Ns.cntE p n f)).length:Nat):Int)
 obtain ⟨hx0,hx1,hx2⟩:=hsx (Ap.shT_top hs1)
 refine Za (pM (mT 0 (.el (En.sysP p n t f) 0)) (oA (Zm (off:=0) (.tmp 38) rfl) I0 (oA (fe 31 39 U94 1) I0 (oA (lE (slA 1 cLi (Ns.shT p.top (Ns.cntE p n f))) 40 U59) I0 (oA (nS 41 U59) I0 (oC (sp_gtr rfl (dT hs1)) I0 I0 (Ze (Zd (Zq rfl ?_)))))))))
 refine Zr (dM (mT 0 (.el (En.sysP p n t f) 0)) (dA (Zm (off:=0) (.tmp 44) rfl) I0 (dA (fe 31 45 U94 1) I0 (dA (lE (slA 1 cLi (Ns.shT p.top (Ns.cntE p n f))) 46 U59) I0 (dA (fe 0 3 U70 1) I0 (dA (lE (iv sx) 48 U3) I0 (dC (xS (sx.toNat*1) 47 49 U59) I0 I0 (dA (lE (Zc c.sh) 50 U24 (Ap.sh_at hx2)) I0 (dC (sc #[.tmp 51] [] (Clone_p ok.sh (Nat.le_trans ok.lsh (by decide))) [Zc c.sh] rfl rfl rfl) I0 I0 (dA (fb 0 5 U31 1) I0 (dR (sB 1 53 (.tmp 52) (.fr (Zc c.sh))) ⟨I0,I0,T0⟩ ⟨rfl,T0⟩ rfl (dE ?_)))))))))))) (by kernel_rfl)
 show ETri J w0 _ _ _
 refine kW 55 [(1,.box 31 [.v (.slice none 0 0),.v (.slice none 0 0),iv 0,.v (.slice none 0 0),.v (.slice none 0 0),iv 0]),(2,.box 31 [.fr (Zc c.sh),.fr (Zc c.st),iv (n-f),.fr (Zc c.se),.fr (Zc c.fa),iv c.val])] [(4,.box 1 0),(5,.box 2 0)] (Zd (Zb (Za (oB (lS ([.fr (Zc c.sh),.fr (Zc c.st),iv (n-f),.fr (Zc c.se),.fr (Zc c.fa),iv c.val]) 6 5 U31) I0 rfl (ZM rfl (sB 6 4 (.tmp 54) (.agg [.fr (Zc c.sh),.fr (Zc c.st),iv (n-f),.fr (Zc c.se),.fr (Zc c.fa),iv c.val])) ⟨I0,I0,T0⟩ ⟨rfl,T0⟩ rfl (Ze (Zd (Zn ?_))))))))
 refine Zv Try.results18 (.cellS rfl rfl U31 rfl (z:=6) (by kernel_rfl) rfl (by decide)) ?_
 rw [← hco]
 exact rfl
 refine Za (pM (mT 0 (.el (En.sysP p n t f) 0)) (oA (Zm (off:=0) (.tmp 38) rfl) I0 (oA (fe 31 39 U94 1) I0 (oA (lE (slA 1 cLi (Ns.shT p.top (Ns.cntE p n f))) 40 U59) I0 (oA (nS 41 U59) I0 (oC (sp_gtr rfl (dF hs1)) I0 I0 (Ze (Zd (Zs rfl (Zp (Zd (Zb (Za (oB (lS ([.v (.slice none 0 0),.fr (Zc c.st),iv (n-f),.fr (Zc c.se),.fr (Zc c.fa),iv c.val]) 6 5 U31) I0 rfl (ZM rfl (sB 6 4 (.tmp 54) (.agg [.v (.slice none 0 0),.fr (Zc c.st),iv (n-f),.fr (Zc c.se),.fr (Zc c.fa),iv c.val])) ⟨I0,I0,T0⟩ ⟨rfl,T0⟩ rfl (Ze (Zd (Zn ?_))))))))))))))))))
 refine Yw (Yn 1 0 3 true 3 1 rfl rfl rfl rfl) ?_
 refine Zv Try.results18 (.cellS rfl rfl U31 rfl (z:=6) (by kernel_rfl) rfl (by decide)) ?_
 have e0:c.sh=[]:=(Decidable.em (p.top=4)).elim (fun e4=>by have h1:=hsx e4;have h2:=hs1;omega) hs0
 unfold Rd.cCg;rw [← hco,e0]
 exact rfl
end Go.Proofs.Ytabgfofjgkibmaa
