import Derived.Test.YtdbehgbggaaipaaGreatGrpinmkkjpe
import Derived.Test.YtdbehgbggaaipaaGreatGrpomndejbf
import Derived.Test.YtdbehgbggaaipaaGreatGrpkgnmkbgm
import Derived.Test.YtdbehgbggaaipaaGreatGrppibiedhl
import Derived.Test.YtdbehgbggaaipaaGreatGrpebeobalj
import Derived.Test.YtdbehgbggaaipaaGreatGrplepkmfdd
import Derived.Test.YtdbehgbggaaipaaGreatGrpjljjncbf
import Derived.Test.YtdbehgbggaaipaaGreatGrpblcpooha
set_option linter.all false
namespace Go.Proofs.YtdbehgbggaaipaaGreat
open Go.RowKit Go.Deep
set_option maxHeartbeats 12800000
theorem cmpI_two (a d b x:Int):cmpI [a,d] [b,x]=orL [cmpN a b,cmpN d x]:=by
 unfold cmpN
 simp only [cmpI,orL]
 repeat' split
 all_goals first | rfl | omega | simp_all
variable {w:World}{x y:Int}
theorem two_ints {b:Nat} {t:TypeId} (hg:w.heap[b]? = some (.cells #[.int .i64 x,.int .i64 y] t (0,0))) (h:I64 x∧I64 y) :
 IsInts 0 w (.slice (some ⟨b,0,none⟩) 2 2) [x,y] :=
 Kf (xs:=[x,y]) hg (Nat.zero_le _) rfl (Nat.le_refl _) (by unfold maxLen;omega) (fun u hu=>by simp at hu;exact hu.elim (fun e=>e ▸ h.1) fun e=>e ▸ h.2) fun i hi=>by
  match i,hi with
  | 0,_=>rfl
  | 1,_=>rfl
theorem Zb2 {lo lo':Nat} {v v':Value} {p q:Cf} (h:IsCf lo w v p) (h':IsCf lo' w v' q) :
 Calls Tryz.prog 11 #[v,v'] w fun e w'=>e = .returned (.int .i64 (cmpCf p q))∧Below w.heap.size w w':=by
 obtain ⟨u0,u1,u3,u4,rfl,h0,h1,g2,h3,h4,g5⟩:=h
 obtain ⟨v0,v1,v3,v4,rfl,k0,k1,l2,k3,k4,l5⟩:=h'
 obtain ⟨a0,c0,rfl⟩:=h0.shape
 obtain ⟨b0,d0,rfl⟩:=k0.shape
 have H0:=Lib.hid h0
 have K0:=Lib.hid k0
 obtain ⟨a1,c1,rfl⟩:=h1.shape
 obtain ⟨b1,d1,rfl⟩:=k1.shape
 have H1:=Lib.hid h1
 have K1:=Lib.hid k1
 obtain ⟨a3,c3,rfl⟩:=h3.shape
 obtain ⟨b3,d3,rfl⟩:=k3.shape
 have H3:=Lib.hid h3
 have K3:=Lib.hid k3
 obtain ⟨a4,c4,rfl⟩:=h4.shape
 obtain ⟨b4,d4,rfl⟩:=k4.shape
 have H4:=Lib.hid h4
 have K4:=Lib.hid k4
 have G:=Lib.hid (And.intro g2 g5)
 have G':=Lib.hid (And.intro l2 l5)
 clear h0 h1 h3 h4 k0 k1 k3 k4 g2 g5 l2 l5
 have E:Hid (cmpCf p q=orL [cmpI p.sh q.sh,cmpI p.st q.st,cmpI p.se q.se,cmpI p.fa q.fa,cmpN p.cor q.cor,cmpN p.val q.val]):=(rfl:cmpCf p q=_)
 obtain ⟨e0,j0⟩:∃ e,e=cmpI p.sh q.sh:=⟨_,rfl⟩
 rw [← j0] at E
 have J0:=Lib.hid j0
 obtain ⟨e1,j1⟩:∃ e,e=cmpI p.st q.st:=⟨_,rfl⟩
 rw [← j1] at E
 have J1:=Lib.hid j1
 obtain ⟨e2,j2⟩:∃ e,e=cmpI p.se q.se:=⟨_,rfl⟩
 rw [← j2] at E
 have J2:=Lib.hid j2
 obtain ⟨e3,j3⟩:∃ e,e=cmpI p.fa q.fa:=⟨_,rfl⟩
 rw [← j3] at E
 have J3:=Lib.hid j3
 clear j0 j1 j2 j3
 have C0:Hid (∀ w':World,Below w.heap.size w w'→Calls Tryz.prog 28 #[.slice a0 p.sh.length c0,.slice b0 q.sh.length d0] w' fun e w''=>e = .returned (.int .i64 e0)∧Below w'.heap.size w' w''):=fun w' hb=>by
  have h:=Kn (H0.out.below hb) (K0.out.below hb)
  rw [← J0.out] at h
  exact h
 have C1:Hid (∀ w':World,Below w.heap.size w w'→Calls Tryz.prog 28 #[.slice a1 p.st.length c1,.slice b1 q.st.length d1] w' fun e w''=>e = .returned (.int .i64 e1)∧Below w'.heap.size w' w''):=fun w' hb=>by
  have h:=Kn (H1.out.below hb) (K1.out.below hb)
  rw [← J1.out] at h
  exact h
 have C2:Hid (∀ w':World,Below w.heap.size w w'→Calls Tryz.prog 28 #[.slice a3 p.se.length c3,.slice b3 q.se.length d3] w' fun e w''=>e = .returned (.int .i64 e2)∧Below w'.heap.size w' w''):=fun w' hb=>by
  have h:=Kn (H3.out.below hb) (K3.out.below hb)
  rw [← J2.out] at h
  exact h
 have C3:Hid (∀ w':World,Below w.heap.size w w'→Calls Tryz.prog 28 #[.slice a4 p.fa.length c4,.slice b4 q.fa.length d4] w' fun e w''=>e = .returned (.int .i64 e3)∧Below w'.heap.size w' w''):=fun w' hb=>by
  have h:=Kn (H4.out.below hb) (K4.out.below hb)
  rw [← J3.out] at h
  exact h
 by_cases z0:e0=0
 ·subst z0
  by_cases z1:e1=0
  ·subst z1
   by_cases z2:e2=0
   ·subst z2
    by_cases z3:e3=0
    ·subst z3
     go_enter Tryz.func11,Tryz.ntmps11
     go_wp2_with fail
     obtain ⟨W,hW⟩:∃ W,W=(w.alloc (.cells #[.slice a0 p.sh.length c0,.slice a1 p.st.length c1,.int .i64 p.cor,.slice a3 p.se.length c3,.slice a4 p.fa.length c4,.int .i64 p.val] 31)).alloc (.cells #[.slice b0 q.sh.length d0,.slice b1 q.st.length d1,.int .i64 q.cor,.slice b3 q.se.length d3,.slice b4 q.fa.length d4,.int .i64 q.val] 31):=⟨_,rfl⟩
     rw [← hW]
     have HB:=Lib.hid (show Below w.heap.size w W by rw [hW];show Below _ _ _;go_grown)
     have x0:W.cell? ⟨w.heap.size,0,none⟩=some (.slice a0 p.sh.length c0):=by rw [hW];exact keep1 ((Zk w _ _ 0 rfl).trans rfl) (Zd _ _)
     have y0:W.cell? ⟨w.heap.size+1,0,none⟩=some (.slice b0 q.sh.length d0):=by rw [hW];exact (Zk _ _ _ 0 (by simp)).trans rfl
     have x1:W.cell? ⟨w.heap.size,1,none⟩=some (.slice a1 p.st.length c1):=by rw [hW];exact keep1 ((Zk w _ _ 1 rfl).trans rfl) (Zd _ _)
     have y1:W.cell? ⟨w.heap.size+1,1,none⟩=some (.slice b1 q.st.length d1):=by rw [hW];exact (Zk _ _ _ 1 (by simp)).trans rfl
     have x2:W.cell? ⟨w.heap.size,2,none⟩=some (.int .i64 p.cor):=by rw [hW];exact keep1 ((Zk w _ _ 2 rfl).trans rfl) (Zd _ _)
     have y2:W.cell? ⟨w.heap.size+1,2,none⟩=some (.int .i64 q.cor):=by rw [hW];exact (Zk _ _ _ 2 (by simp)).trans rfl
     have x3:W.cell? ⟨w.heap.size,3,none⟩=some (.slice a3 p.se.length c3):=by rw [hW];exact keep1 ((Zk w _ _ 3 rfl).trans rfl) (Zd _ _)
     have y3:W.cell? ⟨w.heap.size+1,3,none⟩=some (.slice b3 q.se.length d3):=by rw [hW];exact (Zk _ _ _ 3 (by simp)).trans rfl
     have x4:W.cell? ⟨w.heap.size,4,none⟩=some (.slice a4 p.fa.length c4):=by rw [hW];exact keep1 ((Zk w _ _ 4 rfl).trans rfl) (Zd _ _)
     have y4:W.cell? ⟨w.heap.size+1,4,none⟩=some (.slice b4 q.fa.length d4):=by rw [hW];exact (Zk _ _ _ 4 (by simp)).trans rfl
     have x5:W.cell? ⟨w.heap.size,5,none⟩=some (.int .i64 p.val):=by rw [hW];exact keep1 ((Zk w _ _ 5 rfl).trans rfl) (Zd _ _)
     have y5:W.cell? ⟨w.heap.size+1,5,none⟩=some (.int .i64 q.val):=by rw [hW];exact (Zk _ _ _ 5 (by simp)).trans rfl
     clear hW
     refine (C0.out _ HB.out).mono ?_
     rintro e w0 ⟨rfl,hb0⟩
     have HB0:=Lib.hid (Ze HB.out hb0)
     replace x0:=keep1 x0 hb0
     replace y0:=keep1 y0 hb0
     replace x1:=keep1 x1 hb0
     replace y1:=keep1 y1 hb0
     replace x2:=keep1 x2 hb0
     replace y2:=keep1 y2 hb0
     replace x3:=keep1 x3 hb0
     replace y3:=keep1 y3 hb0
     replace x4:=keep1 x4 hb0
     replace y4:=keep1 y4 hb0
     replace x5:=keep1 x5 hb0
     replace y5:=keep1 y5 hb0
     clear hb0
     go_wp2_with fail
     refine (C1.out _ HB0.out).mono ?_
     rintro e w1 ⟨rfl,hb1⟩
     have HB1:=Lib.hid (Ze HB0.out hb1)
     replace x0:=keep1 x0 hb1
     replace y0:=keep1 y0 hb1
     replace x1:=keep1 x1 hb1
     replace y1:=keep1 y1 hb1
     replace x2:=keep1 x2 hb1
     replace y2:=keep1 y2 hb1
     replace x3:=keep1 x3 hb1
     replace y3:=keep1 y3 hb1
     replace x4:=keep1 x4 hb1
     replace y4:=keep1 y4 hb1
     replace x5:=keep1 x5 hb1
     replace y5:=keep1 y5 hb1
     clear hb1
     go_wp2_with fail
     refine (C2.out _ HB1.out).mono ?_
     rintro e w2 ⟨rfl,hb2⟩
     have HB2:=Lib.hid (Ze HB1.out hb2)
     replace x0:=keep1 x0 hb2
     replace y0:=keep1 y0 hb2
     replace x1:=keep1 x1 hb2
     replace y1:=keep1 y1 hb2
     replace x2:=keep1 x2 hb2
     replace y2:=keep1 y2 hb2
     replace x3:=keep1 x3 hb2
     replace y3:=keep1 y3 hb2
     replace x4:=keep1 x4 hb2
     replace y4:=keep1 y4 hb2
     replace x5:=keep1 x5 hb2
     replace y5:=keep1 y5 hb2
     clear hb2
     go_wp2_with fail
     refine (C3.out _ HB2.out).mono ?_
     rintro e w3 ⟨rfl,hb3⟩
     have HB3:=Lib.hid (Ze HB2.out hb3)
     replace x0:=keep1 x0 hb3
     replace y0:=keep1 y0 hb3
     replace x1:=keep1 x1 hb3
     replace y1:=keep1 y1 hb3
     replace x2:=keep1 x2 hb3
     replace y2:=keep1 y2 hb3
     replace x3:=keep1 x3 hb3
     replace y3:=keep1 y3 hb3
     replace x4:=keep1 x4 hb3
     replace y4:=keep1 y4 hb3
     replace x5:=keep1 x5 hb3
     replace y5:=keep1 y5 hb3
     clear hb3
     have hz3:w.heap.size+1<w3.heap.size:=W5 y2
     have hz4:w.heap.size<w3.heap.size:=W5 x2
     go_wp2_with (go_at_call 28;refine (Kn (two_ints ((ZaI _ _ (by go_size)).trans (ZY _ _ (by go_size))) G.out) (two_ints (ZY _ _ (by go_size)) G'.out)).mono ?_;rintro e w5 ⟨rfl,hb5⟩)
     go_ret
     exact ⟨Zt (by rw [E.out,cmpI_two];simp only [orL,if_pos]),Ze HB3.out (Below.trans (by go_grown) (hb5.mono (by go_size)))⟩
    have zz3:(e3 != 0)=true:=by simpa using z3
    have N:=Lib.hid z3
    clear z3
    go_enter Tryz.func11,Tryz.ntmps11
    go_wp2_with fail
    obtain ⟨W,hW⟩:∃ W,W=(w.alloc (.cells #[.slice a0 p.sh.length c0,.slice a1 p.st.length c1,.int .i64 p.cor,.slice a3 p.se.length c3,.slice a4 p.fa.length c4,.int .i64 p.val] 31)).alloc (.cells #[.slice b0 q.sh.length d0,.slice b1 q.st.length d1,.int .i64 q.cor,.slice b3 q.se.length d3,.slice b4 q.fa.length d4,.int .i64 q.val] 31):=⟨_,rfl⟩
    rw [← hW]
    have HB:=Lib.hid (show Below w.heap.size w W by rw [hW];show Below _ _ _;go_grown)
    have x0:W.cell? ⟨w.heap.size,0,none⟩=some (.slice a0 p.sh.length c0):=by rw [hW];exact keep1 ((Zk w _ _ 0 rfl).trans rfl) (Zd _ _)
    have y0:W.cell? ⟨w.heap.size+1,0,none⟩=some (.slice b0 q.sh.length d0):=by rw [hW];exact (Zk _ _ _ 0 (by simp)).trans rfl
    have x1:W.cell? ⟨w.heap.size,1,none⟩=some (.slice a1 p.st.length c1):=by rw [hW];exact keep1 ((Zk w _ _ 1 rfl).trans rfl) (Zd _ _)
    have y1:W.cell? ⟨w.heap.size+1,1,none⟩=some (.slice b1 q.st.length d1):=by rw [hW];exact (Zk _ _ _ 1 (by simp)).trans rfl
    have x2:W.cell? ⟨w.heap.size,2,none⟩=some (.int .i64 p.cor):=by rw [hW];exact keep1 ((Zk w _ _ 2 rfl).trans rfl) (Zd _ _)
    have y2:W.cell? ⟨w.heap.size+1,2,none⟩=some (.int .i64 q.cor):=by rw [hW];exact (Zk _ _ _ 2 (by simp)).trans rfl
    have x3:W.cell? ⟨w.heap.size,3,none⟩=some (.slice a3 p.se.length c3):=by rw [hW];exact keep1 ((Zk w _ _ 3 rfl).trans rfl) (Zd _ _)
    have y3:W.cell? ⟨w.heap.size+1,3,none⟩=some (.slice b3 q.se.length d3):=by rw [hW];exact (Zk _ _ _ 3 (by simp)).trans rfl
    have x4:W.cell? ⟨w.heap.size,4,none⟩=some (.slice a4 p.fa.length c4):=by rw [hW];exact keep1 ((Zk w _ _ 4 rfl).trans rfl) (Zd _ _)
    have y4:W.cell? ⟨w.heap.size+1,4,none⟩=some (.slice b4 q.fa.length d4):=by rw [hW];exact (Zk _ _ _ 4 (by simp)).trans rfl
    have x5:W.cell? ⟨w.heap.size,5,none⟩=some (.int .i64 p.val):=by rw [hW];exact keep1 ((Zk w _ _ 5 rfl).trans rfl) (Zd _ _)
    have y5:W.cell? ⟨w.heap.size+1,5,none⟩=some (.int .i64 q.val):=by rw [hW];exact (Zk _ _ _ 5 (by simp)).trans rfl
    clear hW
    refine (C0.out _ HB.out).mono ?_
    rintro e w0 ⟨rfl,hb0⟩
    have HB0:=Lib.hid (Ze HB.out hb0)
    replace x0:=keep1 x0 hb0
    replace y0:=keep1 y0 hb0
    replace x1:=keep1 x1 hb0
    replace y1:=keep1 y1 hb0
    replace x2:=keep1 x2 hb0
    replace y2:=keep1 y2 hb0
    replace x3:=keep1 x3 hb0
    replace y3:=keep1 y3 hb0
    replace x4:=keep1 x4 hb0
    replace y4:=keep1 y4 hb0
    replace x5:=keep1 x5 hb0
    replace y5:=keep1 y5 hb0
    clear hb0
    go_wp2_with fail
    refine (C1.out _ HB0.out).mono ?_
    rintro e w1 ⟨rfl,hb1⟩
    have HB1:=Lib.hid (Ze HB0.out hb1)
    replace x0:=keep1 x0 hb1
    replace y0:=keep1 y0 hb1
    replace x1:=keep1 x1 hb1
    replace y1:=keep1 y1 hb1
    replace x2:=keep1 x2 hb1
    replace y2:=keep1 y2 hb1
    replace x3:=keep1 x3 hb1
    replace y3:=keep1 y3 hb1
    replace x4:=keep1 x4 hb1
    replace y4:=keep1 y4 hb1
    replace x5:=keep1 x5 hb1
    replace y5:=keep1 y5 hb1
    clear hb1
    go_wp2_with fail
    refine (C2.out _ HB1.out).mono ?_
    rintro e w2 ⟨rfl,hb2⟩
    have HB2:=Lib.hid (Ze HB1.out hb2)
    replace x0:=keep1 x0 hb2
    replace y0:=keep1 y0 hb2
    replace x1:=keep1 x1 hb2
    replace y1:=keep1 y1 hb2
    replace x2:=keep1 x2 hb2
    replace y2:=keep1 y2 hb2
    replace x3:=keep1 x3 hb2
    replace y3:=keep1 y3 hb2
    replace x4:=keep1 x4 hb2
    replace y4:=keep1 y4 hb2
    replace x5:=keep1 x5 hb2
    replace y5:=keep1 y5 hb2
    clear hb2
    go_wp2_with fail
    refine (C3.out _ HB2.out).mono ?_
    rintro e w3 ⟨rfl,hb3⟩
    have HB3:=Lib.hid (Ze HB2.out hb3)
    replace x0:=keep1 x0 hb3
    replace y0:=keep1 y0 hb3
    replace x1:=keep1 x1 hb3
    replace y1:=keep1 y1 hb3
    replace x2:=keep1 x2 hb3
    replace y2:=keep1 y2 hb3
    replace x3:=keep1 x3 hb3
    replace y3:=keep1 y3 hb3
    replace x4:=keep1 x4 hb3
    replace y4:=keep1 y4 hb3
    replace x5:=keep1 x5 hb3
    replace y5:=keep1 y5 hb3
    clear hb3
    go_wp2_with fail
    go_ret
    exact ⟨Zt (by have n:=N.out;rw [E.out];simp [orL,n]),HB3.out⟩
   have zz2:(e2 != 0)=true:=by simpa using z2
   have N:=Lib.hid z2
   clear z2
   go_enter Tryz.func11,Tryz.ntmps11
   go_wp2_with fail
   obtain ⟨W,hW⟩:∃ W,W=(w.alloc (.cells #[.slice a0 p.sh.length c0,.slice a1 p.st.length c1,.int .i64 p.cor,.slice a3 p.se.length c3,.slice a4 p.fa.length c4,.int .i64 p.val] 31)).alloc (.cells #[.slice b0 q.sh.length d0,.slice b1 q.st.length d1,.int .i64 q.cor,.slice b3 q.se.length d3,.slice b4 q.fa.length d4,.int .i64 q.val] 31):=⟨_,rfl⟩
   rw [← hW]
   have HB:=Lib.hid (show Below w.heap.size w W by rw [hW];show Below _ _ _;go_grown)
   have x0:W.cell? ⟨w.heap.size,0,none⟩=some (.slice a0 p.sh.length c0):=by rw [hW];exact keep1 ((Zk w _ _ 0 rfl).trans rfl) (Zd _ _)
   have y0:W.cell? ⟨w.heap.size+1,0,none⟩=some (.slice b0 q.sh.length d0):=by rw [hW];exact (Zk _ _ _ 0 (by simp)).trans rfl
   have x1:W.cell? ⟨w.heap.size,1,none⟩=some (.slice a1 p.st.length c1):=by rw [hW];exact keep1 ((Zk w _ _ 1 rfl).trans rfl) (Zd _ _)
   have y1:W.cell? ⟨w.heap.size+1,1,none⟩=some (.slice b1 q.st.length d1):=by rw [hW];exact (Zk _ _ _ 1 (by simp)).trans rfl
   have x2:W.cell? ⟨w.heap.size,2,none⟩=some (.int .i64 p.cor):=by rw [hW];exact keep1 ((Zk w _ _ 2 rfl).trans rfl) (Zd _ _)
   have y2:W.cell? ⟨w.heap.size+1,2,none⟩=some (.int .i64 q.cor):=by rw [hW];exact (Zk _ _ _ 2 (by simp)).trans rfl
   have x3:W.cell? ⟨w.heap.size,3,none⟩=some (.slice a3 p.se.length c3):=by rw [hW];exact keep1 ((Zk w _ _ 3 rfl).trans rfl) (Zd _ _)
   have y3:W.cell? ⟨w.heap.size+1,3,none⟩=some (.slice b3 q.se.length d3):=by rw [hW];exact (Zk _ _ _ 3 (by simp)).trans rfl
   have x4:W.cell? ⟨w.heap.size,4,none⟩=some (.slice a4 p.fa.length c4):=by rw [hW];exact keep1 ((Zk w _ _ 4 rfl).trans rfl) (Zd _ _)
   have y4:W.cell? ⟨w.heap.size+1,4,none⟩=some (.slice b4 q.fa.length d4):=by rw [hW];exact (Zk _ _ _ 4 (by simp)).trans rfl
   have x5:W.cell? ⟨w.heap.size,5,none⟩=some (.int .i64 p.val):=by rw [hW];exact keep1 ((Zk w _ _ 5 rfl).trans rfl) (Zd _ _)
   have y5:W.cell? ⟨w.heap.size+1,5,none⟩=some (.int .i64 q.val):=by rw [hW];exact (Zk _ _ _ 5 (by simp)).trans rfl
   clear hW
   refine (C0.out _ HB.out).mono ?_
   rintro e w0 ⟨rfl,hb0⟩
   have HB0:=Lib.hid (Ze HB.out hb0)
   replace x0:=keep1 x0 hb0
   replace y0:=keep1 y0 hb0
   replace x1:=keep1 x1 hb0
   replace y1:=keep1 y1 hb0
   replace x2:=keep1 x2 hb0
   replace y2:=keep1 y2 hb0
   replace x3:=keep1 x3 hb0
   replace y3:=keep1 y3 hb0
   replace x4:=keep1 x4 hb0
   replace y4:=keep1 y4 hb0
   replace x5:=keep1 x5 hb0
   replace y5:=keep1 y5 hb0
   clear hb0
   go_wp2_with fail
   refine (C1.out _ HB0.out).mono ?_
   rintro e w1 ⟨rfl,hb1⟩
   have HB1:=Lib.hid (Ze HB0.out hb1)
   replace x0:=keep1 x0 hb1
   replace y0:=keep1 y0 hb1
   replace x1:=keep1 x1 hb1
   replace y1:=keep1 y1 hb1
   replace x2:=keep1 x2 hb1
   replace y2:=keep1 y2 hb1
   replace x3:=keep1 x3 hb1
   replace y3:=keep1 y3 hb1
   replace x4:=keep1 x4 hb1
   replace y4:=keep1 y4 hb1
   replace x5:=keep1 x5 hb1
   replace y5:=keep1 y5 hb1
   clear hb1
   go_wp2_with fail
   refine (C2.out _ HB1.out).mono ?_
   rintro e w2 ⟨rfl,hb2⟩
   have HB2:=Lib.hid (Ze HB1.out hb2)
   replace x0:=keep1 x0 hb2
   replace y0:=keep1 y0 hb2
   replace x1:=keep1 x1 hb2
   replace y1:=keep1 y1 hb2
   replace x2:=keep1 x2 hb2
   replace y2:=keep1 y2 hb2
   replace x3:=keep1 x3 hb2
   replace y3:=keep1 y3 hb2
   replace x4:=keep1 x4 hb2
   replace y4:=keep1 y4 hb2
   replace x5:=keep1 x5 hb2
   replace y5:=keep1 y5 hb2
   clear hb2
   go_wp2_with fail
   go_ret
   exact ⟨Zt (by have n:=N.out;rw [E.out];simp [orL,n]),HB2.out⟩
  have zz1:(e1 != 0)=true:=by simpa using z1
  have N:=Lib.hid z1
  clear z1
  go_enter Tryz.func11,Tryz.ntmps11
  go_wp2_with fail
  obtain ⟨W,hW⟩:∃ W,W=(w.alloc (.cells #[.slice a0 p.sh.length c0,.slice a1 p.st.length c1,.int .i64 p.cor,.slice a3 p.se.length c3,.slice a4 p.fa.length c4,.int .i64 p.val] 31)).alloc (.cells #[.slice b0 q.sh.length d0,.slice b1 q.st.length d1,.int .i64 q.cor,.slice b3 q.se.length d3,.slice b4 q.fa.length d4,.int .i64 q.val] 31):=⟨_,rfl⟩
  rw [← hW]
  have HB:=Lib.hid (show Below w.heap.size w W by rw [hW];show Below _ _ _;go_grown)
  have x0:W.cell? ⟨w.heap.size,0,none⟩=some (.slice a0 p.sh.length c0):=by rw [hW];exact keep1 ((Zk w _ _ 0 rfl).trans rfl) (Zd _ _)
  have y0:W.cell? ⟨w.heap.size+1,0,none⟩=some (.slice b0 q.sh.length d0):=by rw [hW];exact (Zk _ _ _ 0 (by simp)).trans rfl
  have x1:W.cell? ⟨w.heap.size,1,none⟩=some (.slice a1 p.st.length c1):=by rw [hW];exact keep1 ((Zk w _ _ 1 rfl).trans rfl) (Zd _ _)
  have y1:W.cell? ⟨w.heap.size+1,1,none⟩=some (.slice b1 q.st.length d1):=by rw [hW];exact (Zk _ _ _ 1 (by simp)).trans rfl
  have x2:W.cell? ⟨w.heap.size,2,none⟩=some (.int .i64 p.cor):=by rw [hW];exact keep1 ((Zk w _ _ 2 rfl).trans rfl) (Zd _ _)
  have y2:W.cell? ⟨w.heap.size+1,2,none⟩=some (.int .i64 q.cor):=by rw [hW];exact (Zk _ _ _ 2 (by simp)).trans rfl
  have x3:W.cell? ⟨w.heap.size,3,none⟩=some (.slice a3 p.se.length c3):=by rw [hW];exact keep1 ((Zk w _ _ 3 rfl).trans rfl) (Zd _ _)
  have y3:W.cell? ⟨w.heap.size+1,3,none⟩=some (.slice b3 q.se.length d3):=by rw [hW];exact (Zk _ _ _ 3 (by simp)).trans rfl
  have x4:W.cell? ⟨w.heap.size,4,none⟩=some (.slice a4 p.fa.length c4):=by rw [hW];exact keep1 ((Zk w _ _ 4 rfl).trans rfl) (Zd _ _)
  have y4:W.cell? ⟨w.heap.size+1,4,none⟩=some (.slice b4 q.fa.length d4):=by rw [hW];exact (Zk _ _ _ 4 (by simp)).trans rfl
  have x5:W.cell? ⟨w.heap.size,5,none⟩=some (.int .i64 p.val):=by rw [hW];exact keep1 ((Zk w _ _ 5 rfl).trans rfl) (Zd _ _)
  have y5:W.cell? ⟨w.heap.size+1,5,none⟩=some (.int .i64 q.val):=by rw [hW];exact (Zk _ _ _ 5 (by simp)).trans rfl
  clear hW
  refine (C0.out _ HB.out).mono ?_
  rintro e w0 ⟨rfl,hb0⟩
  have HB0:=Lib.hid (Ze HB.out hb0)
  replace x0:=keep1 x0 hb0
  replace y0:=keep1 y0 hb0
  replace x1:=keep1 x1 hb0
  replace y1:=keep1 y1 hb0
  replace x2:=keep1 x2 hb0
  replace y2:=keep1 y2 hb0
  replace x3:=keep1 x3 hb0
  replace y3:=keep1 y3 hb0
  replace x4:=keep1 x4 hb0
  replace y4:=keep1 y4 hb0
  replace x5:=keep1 x5 hb0
  replace y5:=keep1 y5 hb0
  clear hb0
  go_wp2_with fail
  refine (C1.out _ HB0.out).mono ?_
  rintro e w1 ⟨rfl,hb1⟩
  have HB1:=Lib.hid (Ze HB0.out hb1)
  replace x0:=keep1 x0 hb1
  replace y0:=keep1 y0 hb1
  replace x1:=keep1 x1 hb1
  replace y1:=keep1 y1 hb1
  replace x2:=keep1 x2 hb1
  replace y2:=keep1 y2 hb1
  replace x3:=keep1 x3 hb1
  replace y3:=keep1 y3 hb1
  replace x4:=keep1 x4 hb1
  replace y4:=keep1 y4 hb1
  replace x5:=keep1 x5 hb1
  replace y5:=keep1 y5 hb1
  clear hb1
  go_wp2_with fail
  go_ret
  exact ⟨Zt (by have n:=N.out;rw [E.out];simp [orL,n]),HB1.out⟩
 have zz0:(e0 != 0)=true:=by simpa using z0
 have N:=Lib.hid z0
 clear z0
 go_enter Tryz.func11,Tryz.ntmps11
 go_wp2_with fail
 obtain ⟨W,hW⟩:∃ W,W=(w.alloc (.cells #[.slice a0 p.sh.length c0,.slice a1 p.st.length c1,.int .i64 p.cor,.slice a3 p.se.length c3,.slice a4 p.fa.length c4,.int .i64 p.val] 31)).alloc (.cells #[.slice b0 q.sh.length d0,.slice b1 q.st.length d1,.int .i64 q.cor,.slice b3 q.se.length d3,.slice b4 q.fa.length d4,.int .i64 q.val] 31):=⟨_,rfl⟩
 rw [← hW]
 have HB:=Lib.hid (show Below w.heap.size w W by rw [hW];show Below _ _ _;go_grown)
 have x0:W.cell? ⟨w.heap.size,0,none⟩=some (.slice a0 p.sh.length c0):=by rw [hW];exact keep1 ((Zk w _ _ 0 rfl).trans rfl) (Zd _ _)
 have y0:W.cell? ⟨w.heap.size+1,0,none⟩=some (.slice b0 q.sh.length d0):=by rw [hW];exact (Zk _ _ _ 0 (by simp)).trans rfl
 have x1:W.cell? ⟨w.heap.size,1,none⟩=some (.slice a1 p.st.length c1):=by rw [hW];exact keep1 ((Zk w _ _ 1 rfl).trans rfl) (Zd _ _)
 have y1:W.cell? ⟨w.heap.size+1,1,none⟩=some (.slice b1 q.st.length d1):=by rw [hW];exact (Zk _ _ _ 1 (by simp)).trans rfl
 have x2:W.cell? ⟨w.heap.size,2,none⟩=some (.int .i64 p.cor):=by rw [hW];exact keep1 ((Zk w _ _ 2 rfl).trans rfl) (Zd _ _)
 have y2:W.cell? ⟨w.heap.size+1,2,none⟩=some (.int .i64 q.cor):=by rw [hW];exact (Zk _ _ _ 2 (by simp)).trans rfl
 have x3:W.cell? ⟨w.heap.size,3,none⟩=some (.slice a3 p.se.length c3):=by rw [hW];exact keep1 ((Zk w _ _ 3 rfl).trans rfl) (Zd _ _)
 have y3:W.cell? ⟨w.heap.size+1,3,none⟩=some (.slice b3 q.se.length d3):=by rw [hW];exact (Zk _ _ _ 3 (by simp)).trans rfl
 have x4:W.cell? ⟨w.heap.size,4,none⟩=some (.slice a4 p.fa.length c4):=by rw [hW];exact keep1 ((Zk w _ _ 4 rfl).trans rfl) (Zd _ _)
 have y4:W.cell? ⟨w.heap.size+1,4,none⟩=some (.slice b4 q.fa.length d4):=by rw [hW];exact (Zk _ _ _ 4 (by simp)).trans rfl
 have x5:W.cell? ⟨w.heap.size,5,none⟩=some (.int .i64 p.val):=by rw [hW];exact keep1 ((Zk w _ _ 5 rfl).trans rfl) (Zd _ _)
 have y5:W.cell? ⟨w.heap.size+1,5,none⟩=some (.int .i64 q.val):=by rw [hW];exact (Zk _ _ _ 5 (by simp)).trans rfl
 clear hW
 refine (C0.out _ HB.out).mono ?_
 rintro e w0 ⟨rfl,hb0⟩
 have HB0:=Lib.hid (Ze HB.out hb0)
 replace x0:=keep1 x0 hb0
 replace y0:=keep1 y0 hb0
 replace x1:=keep1 x1 hb0
 replace y1:=keep1 y1 hb0
 replace x2:=keep1 x2 hb0
 replace y2:=keep1 y2 hb0
 replace x3:=keep1 x3 hb0
 replace y3:=keep1 y3 hb0
 replace x4:=keep1 x4 hb0
 replace y4:=keep1 y4 hb0
 replace x5:=keep1 x5 hb0
 replace y5:=keep1 y5 hb0
 clear hb0
 go_wp2_with fail
 go_ret
 exact ⟨Zt (by have n:=N.out;rw [E.out];simp [orL,n]),HB0.out⟩
end Go.Proofs.YtdbehgbggaaipaaGreat
namespace Go.Proofs.YtdbehgbggaaipaaGreat
theorem W4:∀ (xs ys:List Int),cmpI ys xs = -cmpI xs ys
 | [],[]=>rfl
 | [],_::_=>rfl
 | _::_,[]=>rfl
 | x::xs,y::ys=>by
   simp only [cmpI]
   by_cases h1:x<y
   ·rw [if_neg (by omega),if_pos h1,if_pos h1];rfl
   by_cases h2:y<x
   ·rw [if_pos h2,if_neg h1,if_pos h2]
   rw [if_neg h2,if_neg h1,if_neg h1,if_neg h2];exact W4 xs ys
theorem Zeg (x y:Int):(cmpN x y = -1∧x<y)∨(cmpN x y=0∧x=y)∨(cmpN x y=1∧y<x):=by
 unfold cmpN
 split
 ·exact .inl ⟨rfl,by assumption⟩
 split
 ·exact .inr (.inr ⟨rfl,by assumption⟩)
 exact .inr (.inl ⟨rfl,by omega⟩)
theorem Zeh (x y:Int):cmpN y x = -cmpN x y:=by
 have:=Zeg x y;have:=Zeg y x;omega
theorem orL_neg:∀ xs:List Int,orL (xs.map (- ·)) = -orL xs
 | []=>rfl
 | x::xs=>by
   simp only [List.map_cons,orL,orL_neg xs]
   by_cases h:x=0
   ·rw [if_pos h,if_pos (by omega)]
   rw [if_neg h,if_neg (by omega)]
end Go.Proofs.YtdbehgbggaaipaaGreat
namespace Go.Proofs.YtdbehgbggaaipaaGreat
open Go.RowKit Go.Deep
namespace Rd
section
variable {J:World→Prop} {F ok:Nat→Prop} {w:World} {lo:Nat}
structure CgIn (c:Cf):Prop where
 sh:InOk c.sh
 st:InOk c.st
 se:InOk c.se
 fa:InOk c.fa
 cor:I64 c.cor
 val:I64 c.val
variable {v:Value}{c:Cf}
theorem cf_in (h:IsCf lo w v c):CgIn c:=by
 obtain ⟨_,_,_,_,_,h0,h1,h2,h3,h4,h5⟩:=h
 exact ⟨h0.ok,h1.ok,h3.ok,h4.ok,h2,h5⟩
theorem cf_pu (hok:∀ b,lo≤b→b<w.heap.size→ok b) (h:IsCf lo w v c):Pu F w ok (.agg (cCg c)) v:=by
 obtain ⟨u0,u1,u3,u4,rfl,h0,h1,_,h3,h4,_⟩:=h
 refine .agg rfl fun j hj => ?_
 match j,hj with
 | 0,_=>exact YA hok h0
 | 1,_=>exact YA hok h1
 | 2,_=>exact .v _
 | 3,_=>exact YA hok h3
 | 4,_=>exact YA hok h4
 | 5,_=>exact .v _
theorem cf_of (H:CgIn c) (h:Pu F w ok (.agg (cCg c)) v):IsCf 0 w v c:=by
 obtain ⟨vs,rfl,hl,hv⟩:=YX h
 match vs,hl,hv with
 | [v0,v1,v2,v3,v4,v5],_,hv =>
   have e2:=(hv 2 (by simp [cCg])).v_inv
   have e5:=(hv 5 (by simp [cCg])).v_inv
   simp only [List.getD_cons_succ,List.getD_cons_zero] at e2 e5
   subst e2 e5
   exact ⟨v0,v1,v3,v4,rfl,YE H.sh (fun _ _=>Nat.zero_le _) (hv 0 (by simp [cCg])),YE H.st (fun _ _=>Nat.zero_le _) (hv 1 (by simp [cCg])),H.cor,YE H.se (fun _ _=>Nat.zero_le _) (hv 3 (by simp [cCg])),YE H.fa (fun _ _=>Nat.zero_le _) (hv 4 (by simp [cCg])),H.val⟩
theorem agg_app {cs ds:List AV} {us vs:List Value} (h1:Pu F w ok (.agg cs) (.agg us.toArray)) (h2:Pu F w ok (.agg ds) (.agg vs.toArray)):Pu F w ok (.agg (cs++ds)) (.agg (us++vs).toArray):=by
 obtain ⟨us',e1,l1,p1⟩:=YX h1
 obtain ⟨vs',e2,l2,p2⟩:=YX h2
 obtain rfl:us=us':=by simpa using e1
 obtain rfl:vs=vs':=by simpa using e2
 refine .agg (by simp [l1,l2]) fun j hj => ?_
 by_cases hj':j<cs.length
 ·rw [List.getElem_append_left hj']
  have:=p1 j hj'
  simpa [Array.getD_eq_getD_getElem?,List.getD_eq_getElem?_getD,List.getElem?_append_left (show j<us.length by omega)] using this
 rw [List.getElem_append_right (by omega)]
 have:=p2 (j-cs.length) (by simp at hj;omega)
 simpa [Array.getD_eq_getD_getElem?,List.getD_eq_getElem?_getD,List.getElem?_append_right (show us.length≤j by omega),l1] using this
theorem Wide_c (H:CgIn c):Ctr Tryz.prog J 6 [.agg (cCg c)] (bv (wideCf c)):=ctr1 fun w v _ h=>(Wide_any (cf_of H h)).mono fun _ _=>ret_sc
theorem cmpCf_same (c:Cf):cmpCf c c=0:=by
 have h:cmpCf c c = -cmpCf c c:=by
  conv=>lhs;unfold cmpCf
  unfold cmpCf
  rw [← orL_neg]
  simp only [List.map_cons,List.map_nil]
  rw [← W4 c.sh c.sh,← W4 c.st c.st,← W4 c.se c.se,← W4 c.fa c.fa,← Zeh c.cor c.cor,← Zeh c.val c.val]
 omega
theorem rCompare_c (H:CgIn c):Ctr Tryz.prog J 11 [.agg (cCg c),.agg (cCg c)] (iv 0):=ctr2 fun w v v' _ h h'=>by
 have:=Zb2 (cf_of H h) (cf_of H h')
 rw [cmpCf_same] at this
 exact this.mono fun _ _=>ret_sc
theorem cg_ok (H:CgIn c) (h:wideCf c=false):CgOk c:=by
 unfold wideCf at h
 simp only [Bool.or_eq_false_iff,decide_eq_false_iff_not] at h
 exact ⟨H.sh,H.st,H.se,H.fa,by omega,by omega,by omega,by omega⟩
end
end Rd
namespace Pe
open En Ap
section
variable {a b:Nat}
end
section
variable {a b:Nat} {c:Cf} (ha:a<c.st.length) (hb:b<c.st.length)
include ha hb
end
variable {p:Fm}{n t f:Int}{c:Cf}
theorem in_ap {x y k:Int} (HL:FamLen p) (HC:Rd.CgOk c) (HI:Rd.CgIn c):Rd.CgIn (apC p n t f c x y k)∧Rd.CgOk (apC p n t f c x y k)∧(apE p n t f c x y k=0→(apC p n t f c x y k).st.length=c.st.length):=by
 by_cases h:apE p n t f c x y k=0
 ·have hz:Rd.vcE p n t f c=0:=by
   by_cases hz:Rd.vcE p n t f c=0
   ·exact hz
   rw [apE_err hz] at h;exact absurd h hz
  obtain ⟨hs,hx⟩:=vc_ok hz
  obtain ⟨hv,hadm,h8⟩:=Ns.sys_ok hs
  have hc:=cf_in hx
  have hai:=Ns.adm_in hadm
  have l8:=cf_len hc hai h8
  cases he:enB p n t f c (hdJ p f c p.msgs.length) x y k with
  | false=>rw [apE_no hz he] at h;cases h
  | true =>
    obtain ⟨r,i,hr,hi,rfl,rfl⟩:=en_at he
    have e:apC p n t f c (r:Int) (i:Int) k=af (n-f) c p.rz[r] i k:=by unfold apC;rw [if_pos h,afX_at hr]
    rw [e]
    have ok:=af_ok HL hc hv HC l8 hr hi (kp:=k)
    have hv2:I64 (af (n-f) c p.rz[r] i k).val:=by
     show I64 (if 0≤p.rz[r].wr then p.rz[r].wr else c.val)
     split
     ·have R:=val_in hv (List.getElem_mem hr)
      have hsz:=val_sizes hv
      have:=R.wr
      unfold I64;omega
     exact HI.val
    exact ⟨⟨ok.sh,ok.st,ok.se,ok.fa,HI.cor,hv2⟩,ok,fun _=>Zbo _ _ _ _⟩
 have e:apC p n t f c x y k=zC:=by unfold apC;rw [if_neg h]
 rw [e]
 have hn:∀ x∈([]:List Int),I64 x:=fun x hx=>absurd hx (List.not_mem_nil)
 exact ⟨⟨hn,hn,hn,hn,by show I64 0;unfold I64;omega,by show I64 0;unfold I64;omega⟩,⟨hn,hn,hn,hn,by decide,by decide,by decide,by decide⟩,fun h2=>absurd h2 h⟩
end Pe
namespace Rp
open En Ap
abbrev Sp:=Int × Int × Int
def cSp (s:Sp):List AV:=[iv s.1,iv s.2.1,iv s.2.2]
theorem len_cSp (s:Sp):(cSp s).length=3:=rfl
theorem plain_cSp (s:Sp):∀ X∈cSp s,Plain X:=by
 intro X hX
 simp only [cSp,List.mem_cons,List.not_mem_nil,or_false] at hX
 rcases hX with rfl | rfl | rfl<;>exact .v _
theorem bel_of {l:List Int} {m:Int} (h:∀ x∈l,0≤x∧x<m):Rd.belB l m=true:=by
 unfold Rd.belB
 rw [Bool.not_eq_true',List.any_eq_false]
 intro x hx
 have:=h x hx
 unfold Rd.outB
 simp only [Bool.or_eq_true,decide_eq_true_eq,not_or]
 omega
variable {p:Fm}{n f:Int}{c:Cf}
theorem rd_of (h:CfV p n f c):Rd.rdX p n f c=true:=by
 unfold Rd.rdX Rd.rdB
 simp only [Bool.and_eq_true,Bool.not_eq_true',decide_eq_true_eq,decide_eq_false_iff_not]
 have hls:=h.ls
 have hlf:=h.lf
 have hva:=h.va
 refine ⟨⟨⟨⟨⟨⟨⟨⟨⟨h.sh,h.ln⟩,bel_of h.st⟩,h.co⟩,by omega⟩,bel_of fun x hx => ?_⟩,by omega⟩,bel_of fun x hx => ?_⟩,by omega⟩,by omega⟩
 ·have:=h.se x hx;omega
 have h1:=h.fa x hx
 have h2:=h.fz
 unfold Rd.mfE
 by_cases a:p.fzz=1∨p.fzz=2
 ·rw [if_pos a];omega
 rw [if_neg a]
 have:=h2 (fun e=>a (.inl e)) (fun e=>a (.inr e)) x hx
 omega
variable {t:Int}
theorem vc_of (hs:Ns.sysE p n t f=0) (h:CfV p n f c):Rd.vcE p n t f c=0:=by
 unfold Rd.vcE
 rw [if_pos hs,if_pos (rd_of h)]
theorem val_fault (h:valE p=0):0≤p.fzz∧p.fzz≤3:=by
 unfold valE at h
 split at h
 ·cases h
 split at h
 ·cases h
 rename_i _ h2
 have:inB 0 3 p.fzz=true:=by
  cases e:inB 0 3 p.fzz with
  | true=>rfl
  | false=>exact absurd (.inr e) h2
 unfold inB at this
 simp at this
 omega
variable {r i:Nat}{kp:Int}
theorem af_cf (hs:Ns.sysE p n t f=0) (hc:CfV p n f c) (hr:r<p.rz.length) (hi:i<c.st.length) (hl:lgB (af (n-f) c p.rz[r] i kp)=true):CfV p n f (af (n-f) c p.rz[r] i kp):=by
 obtain ⟨hv,ha,h8⟩:=Ns.sys_ok hs
 have hai:=Ns.adm_in ha
 have R:=val_in hv (List.getElem_mem hr)
 have hln:=hc.ln
 rw [lg_and] at hl
 refine ⟨?_,st_in hc R,hc.co,?_,fun x hx => ?_,?_,fun x hx => ?_,fun n1 n2 x hx => ?_,?_,hc.sh⟩
 ·show (((stA _ _ _ _).length:Nat):Int)=_
  rw [Zbo];exact hc.ln
 ·show (seA _ _ _ _ _).length=_
  rw [seA_len];exact hc.ls
 ·have:=Zal hl.1 x hx;omega
 ·show (faA _ _ _ _ _).length=_
  rw [faA_len];exact hc.lf
 ·have:=Zal hl.2 x hx;omega
 ·have hi2:(i:Int)<n-f:=by
   unfold Ns.cntE at hln
   by_cases h3:p.fzz=3
   ·rw [if_pos h3] at hln;omega
   rw [if_neg h3] at hln
   have h0:p.fzz=0→f=0:=fun e=>by
    unfold admB at ha
    simp only [Bool.and_eq_true] at ha
    have:=ha.1.1.2
    rw [e] at this
    simp at this
    exact this.2
   have:=val_fault hv
   have:p.fzz=0:=by omega
   have:=h0 this
   omega
  have e:(af (n-f) c p.rz[r] i kp).fa=c.fa:=if_pos hi2
  rw [e] at hx
  exact hc.fz n1 n2 x hx
 show 0≤(if 0≤p.rz[r].wr then p.rz[r].wr else c.val)∧(if 0≤p.rz[r].wr then p.rz[r].wr else c.val)<max (p.vals.length:Int) 1
 have:=hc.va
 have hw:=R.wr
 split<;>omega
def nx (p:Fm) (n f:Int) (c:Cf) (s:Sp):Cf:=afX p n f c s.1 s.2.1 s.2.2
def ee (p:Fm) (n t f:Int) (c:Cf) (s:Sp):Int:=apE p n t f c s.1 s.2.1 s.2.2
def cK (p:Fm) (n f:Int) (c:Cf) (ss:List Sp) (k:Nat):Cf:=(ss.take k).foldl (nx p n f) c
variable {k:Nat}
theorem cK_succ {ss:List Sp} (h:k<ss.length):cK p n f c ss (k+1)=nx p n f (cK p n f c ss k) ss[k]:=by
 unfold cK
 rw [List.take_succ_eq_append_getElem h,List.foldl_append]
 rfl
theorem cK_sh {ss:List Sp} (k:Nat):(cK p n f c ss k).sh=c.sh:=by
 unfold cK
 generalize ss.take k=l
 induction l generalizing c with
 | nil=>rfl
 | cons s l ih=>show (l.foldl (nx p n f) (nx p n f c s)).sh=_;rw [ih];rfl
theorem ee_ok {s:Sp} (hs:Ns.sysE p n t f=0) (hc:CfV p n f c) (h:ee p n t f c s=0) :
 ∃ (r i:Nat) (hr:r<p.rz.length),i<c.st.length∧s.1=(r:Int)∧s.2.1=(i:Int)∧enB p n t f c (hdJ p f c p.msgs.length) s.1 s.2.1 s.2.2=true∧lgB (nx p n f c s)=true∧nx p n f c s=af (n-f) c p.rz[r] i s.2.2:=by
 have hz:=vc_of hs hc
 unfold ee at h
 cases he:enB p n t f c (hdJ p f c p.msgs.length) s.1 s.2.1 s.2.2 with
 | false=>rw [apE_no hz he] at h;cases h
 | true =>
   obtain ⟨r,i,hr,hi,e1,e2⟩:=en_at he
   refine ⟨r,i,hr,hi,e1,e2,rfl,?_,?_⟩
   ·unfold apE at h
    rw [if_pos hz,if_pos he] at h
    cases e:lgB (afX p n f c s.1 s.2.1 s.2.2) with
    | true=>exact e
    | false=>rw [e] at h;cases h
   unfold nx;rw [e1,e2,afX_at hr]
theorem nx_cf {s:Sp} (hs:Ns.sysE p n t f=0) (hc:CfV p n f c) (h:ee p n t f c s=0):CfV p n f (nx p n f c s):=by
 obtain ⟨r,i,hr,hi,e1,e2,he,hl,e⟩:=ee_ok hs hc h
 rw [e] at hl ⊢
 exact af_cf hs hc hr hi hl
theorem nx_ok {s:Sp} (HL:FamLen p) (hs:Ns.sysE p n t f=0) (hc:CfV p n f c) (HC:Rd.CgOk c) (h:ee p n t f c s=0):Rd.CgOk (nx p n f c s):=by
 obtain ⟨r,i,hr,hi,e1,e2,he,hl,e⟩:=ee_ok hs hc h
 obtain ⟨hv,ha,h8⟩:=Ns.sys_ok hs
 rw [e]
 exact af_ok HL hc hv HC (cf_len hc (Ns.adm_in ha) h8) hr hi
def okK (p:Fm) (n t f:Int) (c:Cf) (ss:List Sp) (k:Nat):Prop:=∀ j (h:j<ss.length),j<k→ee p n t f (cK p n f c ss j) ss[j]=0
theorem ok_zero {ss:List Sp}:okK p n t f c ss 0:=fun _ _ h=>absurd h (by omega)
theorem ok_succ {ss:List Sp} (hk:k<ss.length) (h:okK p n t f c ss k) (e:ee p n t f (cK p n f c ss k) ss[k]=0):okK p n t f c ss (k+1):=fun j hj hjk=>by
 by_cases a:j=k
 ·subst a;exact e
 exact h j hj (by omega)
theorem cK_cf {p:Fm} {n t f:Int} {c:Cf} {ss:List Sp} (hs:Ns.sysE p n t f=0) (hc:CfV p n f c):∀ k,k≤ss.length→okK p n t f c ss k→CfV p n f (cK p n f c ss k)
 | 0,_,_=>hc
 | k+1,hk,h=>by
   have h1:=cK_cf hs hc k (by omega) fun j hj hjk=>h j hj (by omega)
   rw [cK_succ (by omega)]
   exact nx_cf hs h1 (h k (by omega) (by omega))
theorem cK_ok {p:Fm} {n t f:Int} {c:Cf} {ss:List Sp} (HL:FamLen p) (hs:Ns.sysE p n t f=0) (hc:CfV p n f c) (HC:Rd.CgOk c):∀ k,k≤ss.length→okK p n t f c ss k→Rd.CgOk (cK p n f c ss k)
 | 0,_,_=>HC
 | k+1,hk,h=>by
   have h0:okK p n t f c ss k:=fun j hj hjk=>h j hj (by omega)
   have h1:=cK_ok HL hs hc HC k (by omega) h0
   rw [cK_succ (by omega)]
   exact nx_ok HL hs (cK_cf hs hc k (by omega) h0) h1 (h k (by omega) (by omega))
theorem len_cCg (c:Cf):(Rd.cCg c).length=6:=rfl
def cRun (c:Cf) (ss:List Sp):List AV:=Rd.cCg c++[slA 3 cSp ss]
def frst:List Int→Int
 | []=>0
 | e::l=>if e=0 then frst l else e
theorem Zd7:∀ {l:List Int},(∀ e∈l,e=0)→frst l=0
 | [],_=>rfl
 | e::l,h=>by unfold frst;rw [if_pos (h e (by simp))];exact Zd7 fun x hx=>h x (by simp [hx])
theorem frst_all:∀ {l:List Int},frst l=0→∀ e∈l,e=0
 | [],_,_,h=>absurd h List.not_mem_nil
 | a::l,h,e,he=>by
   unfold frst at h
   split at h
   ·rename_i ha
    rcases List.mem_cons.1 he with rfl | he
    ·exact ha
    exact frst_all h e he
   rename_i ha;exact absurd h ha
theorem frst_at:∀ {l:List Int} {k:Nat} (hk:k<l.length),(∀ j (hj:j<l.length),j<k→l[j]=0)→¬ l[k]=0→frst l=l[k]
 | [],_,hk,_,_=>absurd hk (by simp)
 | a::l,0,_,_,he=>by unfold frst;rw [if_neg (show ¬ a=0 from he)];rfl
 | a::l,k+1,hk,h,he=>by
   unfold frst
   rw [if_pos (show a=0 from h 0 (by simp) (by omega))]
   exact frst_at (l:=l) (k:=k) (by simpa using hk) (fun j hj hjk=>h (j+1) (by simpa using hj) (by omega)) he
def eeL (p:Fm) (n t f:Int) (c:Cf) (ss:List Sp):List Int:=(List.range ss.length).map fun j=>ee p n t f (cK p n f c ss j) (ss.getD j (0,0,0))
theorem Zc5 (p:Fm) (n t f:Int) (c:Cf) (ss:List Sp):(eeL p n t f c ss).length=ss.length:=by simp [eeL]
variable {j:Nat}
theorem Zed {ss:List Sp} (h:j<ss.length):(eeL p n t f c ss)[j]'(by rw [Zc5];exact h)=ee p n t f (cK p n f c ss j) ss[j]:=by
 simp only [eeL,List.getElem_map,List.getElem_range]
 rw [List.getD_eq_getElem?_getD,List.getElem?_eq_getElem h];rfl
def rpE (p:Fm) (n t f:Int) (c:Cf) (ss:List Sp):Int:=if Ns.sysE p n t f=0 then (if Rd.rdX p n f c=true then frst (eeL p n t f c ss) else 10) else Ns.sysE p n t f
def rpK (p:Fm) (n f:Int) (c:Cf) (ss:List Sp) (k:Nat):List Cf:=(List.range (k+1)).map (cK p n f c ss)
def rpL (p:Fm) (n t f:Int) (c:Cf) (ss:List Sp):List Cf:=if rpE p n t f c ss=0 then rpK p n f c ss ss.length else []
theorem rpK_succ (p:Fm) (n f:Int) (c:Cf) (ss:List Sp) (k:Nat):rpK p n f c ss (k+1)=rpK p n f c ss k++[cK p n f c ss (k+1)]:=by
 unfold rpK
 rw [List.range_succ (n:=k+1),List.map_append]
 rfl
theorem rpK_len (p:Fm) (n f:Int) (c:Cf) (ss:List Sp) (k:Nat):(rpK p n f c ss k).length=k+1:=by simp [rpK]
theorem rpK_at {ss:List Sp} (h:j<k+1):(rpK p n f c ss k)[j]'(by rw [rpK_len];exact h)=cK p n f c ss j:=by simp [rpK]
section
variable {p:Fm} {n t f:Int} {c:Cf} {ss:List Sp}
theorem rp_sys (h:¬ Ns.sysE p n t f=0):rpE p n t f c ss=Ns.sysE p n t f:=by unfold rpE;rw [if_neg h]
theorem rp_run (h:Ns.sysE p n t f=0) (hx:Rd.rdX p n f c=false):rpE p n t f c ss=10:=by unfold rpE;rw [if_pos h,hx];rfl
theorem rp_err (h:Ns.sysE p n t f=0) (hx:Rd.rdX p n f c=true) (hk:k<ss.length) (ok:okK p n t f c ss k) (e:¬ ee p n t f (cK p n f c ss k) ss[k]=0):rpE p n t f c ss=ee p n t f (cK p n f c ss k) ss[k]:=by
 unfold rpE
 rw [if_pos h,if_pos hx,frst_at (k:=k) (by rw [Zc5];exact hk) (fun j hj hjk => ?_) (by rw [Zed hk];exact e),Zed hk]
 have hj':j<ss.length:=by rw [Zc5] at hj;exact hj
 rw [Zed hj']
 exact ok j hj' hjk
theorem rp_ok (h:Ns.sysE p n t f=0) (hx:Rd.rdX p n f c=true) (ok:okK p n t f c ss ss.length):rpE p n t f c ss=0:=by
 unfold rpE
 rw [if_pos h,if_pos hx]
 refine Zd7 fun e he => ?_
 obtain ⟨j,hj,rfl⟩:=List.getElem_of_mem he
 have hj':j<ss.length:=by rw [Zc5] at hj;exact hj
 rw [Zed hj']
 exact ok j hj' hj'
theorem ok_rp (h:rpE p n t f c ss=0):Ns.sysE p n t f=0∧Rd.rdX p n f c=true∧okK p n t f c ss ss.length:=by
 unfold rpE at h
 split at h
 ·rename_i hs
  split at h
  ·rename_i hx
   refine ⟨hs,hx,fun j hj _ => ?_⟩
   rw [← Zed hj]
   exact frst_all h _ (List.getElem_mem _)
  cases h
 rename_i hs;exact absurd h hs
theorem rpL_no (h:¬ rpE p n t f c ss=0):rpL p n t f c ss=[]:=by unfold rpL;rw [if_neg h]
theorem rpL_yes (h:rpE p n t f c ss=0):rpL p n t f c ss=rpK p n f c ss ss.length:=by unfold rpL;rw [if_pos h]
theorem rpL_len (h:rpE p n t f c ss=0):(rpL p n t f c ss).length=ss.length+1:=by rw [rpL_yes h,rpK_len]
theorem rpL_at (h:rpE p n t f c ss=0) (hj:j<(rpL p n t f c ss).length):(rpL p n t f c ss)[j]=cK p n f c ss j:=by
 have hl:=rpL_len h
 simp only [rpL_yes h]
 exact rpK_at (by omega)
theorem ap_at (h:rpE p n t f c ss=0) (hj:j<ss.length):apE p n t f (cK p n f c ss j) ss[j].1 ss[j].2.1 ss[j].2.2=0∧apC p n t f (cK p n f c ss j) ss[j].1 ss[j].2.1 ss[j].2.2=cK p n f c ss (j+1):=by
 obtain ⟨_,_,ok⟩:=ok_rp h
 have e:apE p n t f (cK p n f c ss j) ss[j].1 ss[j].2.1 ss[j].2.2=0:=ok j hj hj
 refine ⟨e,?_⟩
 unfold apC
 rw [if_pos e,cK_succ hj]
 rfl
theorem cK_in (HI:Rd.CgIn c) (HL:FamLen p) (HC:Rd.CgOk c) (hk:k≤ss.length) (h:rpE p n t f c ss=0):Rd.CgIn (cK p n f c ss k):=by
 obtain ⟨hs,hx,ok⟩:=ok_rp h
 induction k with
 | zero=>exact HI
 | succ k ih =>
   have h1:=ih (by omega)
   have h2:=cK_ok HL hs (cf_in hx) HC k (by omega) fun j hj hjk=>ok j hj (by omega)
   have h3:=ap_at h (show k<ss.length by omega)
   rw [← h3.2]
   exact (Pe.in_ap HL h2 h1).1
end
def frCg (c:Cf):List AV:=[.fr (Zb c.sh),.fr (Zb c.st),iv c.cor,.fr (Zb c.se),.fr (Zb c.fa),iv c.val]
theorem newCg (c:Cf):∀ d∈frCg c,d.isNew=true:=fun d hd=>by
 simp only [frCg,List.mem_cons,List.not_mem_nil,or_false] at hd;rcases hd with rfl | rfl | rfl | rfl | rfl | rfl<;>rfl
theorem cellCg (c:Cf):∀ d∈frCg c,d.cell=true:=fun d hd=>by
 simp only [frCg,List.mem_cons,List.not_mem_nil,or_false] at hd;rcases hd with rfl | rfl | rfl | rfl | rfl | rfl<;>rfl
theorem snocCg {ss:List Sp} :(rpK p n f c ss k).flatMap Rd.cCg++Z5 true (frCg (cK p n f c ss (k+1)))=(rpK p n f c ss (k+1)).flatMap Rd.cCg:=by
 rw [rpK_succ,List.flatMap_append]
 simp [Z5,AV.unfr,frCg,Rd.cCg]
end Rp
variable {J:World→Prop}
abbrev XAp1_h1 (x0:Int) (x1:Cf):List (Nat × ABlk):=[(1,.box 71 (En.cfV x0 x1)),(2,.box 71 [iv 0,iv 0,iv 0,iv 0,iv 0,iv 0,iv 0,iv 0,iv 0,iv 0,iv 0,iv 0,iv 0,iv 0,iv 0,iv 0])]
abbrev XAp1_h2 (x0:Fm) (x1:Int) (x2:Int) (x3:Int) (x4:Nat) (x5:Nat) (x6:Int):List (Nat × AV):=[(0,.el (En.sysP x0 x1 x2 x3) 0),(4,bx 1),(5,.el ([iv x4,iv x5,iv x6]) 0),(6,bx 2),(7,.el (x0.rz.flatMap cRu) (x4*18))]
abbrev XAp1_h3 (x0:Int) (x1:Cf) (x2:Ru) (x3:Nat):List (Nat × ABlk):=[(1,.box 71 (En.cfV x0 (Ap.wst x1 (Ap.brL x2 x1.st (x3+1))))),(2,.box 71 [iv 0,iv 0,iv 0,iv 0,iv 0,iv 0,iv 0,iv 0,iv 0,iv 0,iv 0,iv 0,iv 0,iv 0,iv 0,iv 0])]
abbrev Zfg (x0:Int) (x1:Cf) (x2:Ru) (x3:Nat):List (Nat × ABlk):=[(1,.box 71 (En.cfV x0 (Ap.wst x1 (Ap.st1 x1 x2 x3)))),(2,.box 71 [iv 0,iv 0,iv 0,iv 0,iv 0,iv 0,iv 0,iv 0,iv 0,iv 0,iv 0,iv 0,iv 0,iv 0,iv 0,iv 0])]
abbrev Zff (x0:Int) (x1:Int) (x2:Int) (x3:Cf) (x4:Ru) (x5:Nat) (x6:Int) (x7:Nat):List (Nat × ABlk):=[(1,.box 71 (En.cfV x0 (Ap.mid (x1-x2) x3 x4 x5 x6 x7))),(2,.box 71 [iv 0,iv 0,iv 0,iv 0,iv 0,iv 0,iv 0,iv 0,iv 0,iv 0,iv 0,iv 0,iv 0,iv 0,iv 0,iv 0])]
abbrev Zdg (x0:Int) (x1:Int) (x2:Int) (x3:Cf) (x4:Ru) (x5:Nat) (x6:Int) (x7:Nat):List (Nat × ABlk):=[(1,.box 71 (En.cfV x0 (Ap.mid (x1-x2) x3 x4 x5 x6 (x7+1)))),(2,.box 71 [iv 0,iv 0,iv 0,iv 0,iv 0,iv 0,iv 0,iv 0,iv 0,iv 0,iv 0,iv 0,iv 0,iv 0,iv 0,iv 0])]
abbrev XAp1_h7 (x0:Fm) (x1:Int) (x2:Int) (x3:Int) (x4:Nat) (x5:Nat) (x6:Int) (x7:Ru) (x8:Nat):List (Nat × AV):=[(0,.el (En.sysP x0 x1 x2 x3) 0),(4,bx 1),(5,.el ([iv x4,iv x5,iv x6]) 0),(6,bx 2),(7,.el (x0.rz.flatMap cRu) (x4*18)),(69,Zb x7.send),(70,iv (x7.send.length:Nat)),(71,iv ((x8+1):Nat))]
variable {p:Fm}{n t f sx kp:Int}{c:Cf}{r i:Nat}
set_option maxRecDepth 100000 in
set_option maxHeartbeats 6400000 in
theorem after_c (HL:FamLen p) (hc:En.CfV p n f c) (hv:valE p=0) (l8:c.st.length≤8) (hr:r<p.rz.length) (hi:i<c.st.length) (hpt:p.rz[r].kind=2∨p.rz[r].kind=5→0≤kp∧kp<(c.st.length:Int)):Ctr Tryz.prog J 40 [.el (En.sysP p n t f) 0,.agg (En.cfV sx c),.agg [iv r,iv i,iv kp]] (.agg (En.cfV sx (Ap.af (n-f) c p.rz[r] i kp))):=by
 have R:=En.val_in hv (List.getElem_mem hr)
 have hz:=En.val_sizes hv
 have hn:=hc.ln.symm
 have hls:=hc.ls
 have hlf:=hc.lf
 have hsl:=(HL.rz _ (List.getElem_mem hr)).send
 refine Zm Tryz.func40 rfl (pN (show Plain (.el (En.sysP p n t f) 0) from .el (ZN (En.plain_sysP p n t f))) (pN (Zh (En.plain_cfV _ c)) (pN (Zh (pN (.v _) (pN (.v _) (pN (.v _) pZ)))) pZ))) (n:=108) rfl (by simp) (fun w0 => ?_)
 refine kW 108 [] [(0,.el (En.sysP p n t f) 0),(1,.agg (En.cfV sx c)),(2,.agg [iv r,iv i,iv kp])] (jB (oX 1 (.agg (En.cfV sx c)) (oA (ZD (X := .agg [iv r,iv i,iv kp]) (.tmp 2) rfl rfl rfl) I0 (oZ 2 Z71 (jD ?_)))))
 refine tD (dW (dW (dW (dW (dS (slA 18 cRu p.rz) (dW (dS (iv r) (dC (xS (r*18) 16 18 U25) I0 I0 (dS (.el (p.rz.flatMap cRu) (r*18)) (eD ?_))))))))))
 refine kW 108 (XAp1_h1 sx c) (XAp1_h2 p n t f r i kp) (jC (jB (oW (oW (oW (oL (iv p.rz[r].kind) (fT lenRu p.rz r 1) (oC (ZM rfl rfl) I0 I0 (kN 108 (XAp1_h1 sx c) [(0,.el (En.sysP p n t f) 0),(4,bx 1),(5,.el ([iv r,iv i,iv kp]) 0),(6,bx 2),(7,.el (p.rz.flatMap cRu) (r*18)),(24,bv (decide (p.rz[r].kind=3)))] (Zf ?_)))))))))
 refine Ym (True) (ofL [(1,.box 71 (En.cfV sx (Ap.wst c (Ap.st0 c p.rz[r])))),(2,.box 71 [iv 0,iv 0,iv 0,iv 0,iv 0,iv 0,iv 0,iv 0,iv 0,iv 0,iv 0,iv 0,iv 0,iv 0,iv 0,iv 0])]) (ofT 108 [(0,.el (En.sysP p n t f) 0),(4,bx 1),(5,.el ([iv r,iv i,iv kp]) 0),(6,bx 2),(7,.el (p.rz.flatMap cRu) (r*18))]) ?_ (fun _ => ?_)
 by_cases hs1:p.rz[r].kind=3
 rw [dT hs1]
 refine kW 108 [(1,.box 71 (En.cfV sx c)),(2,.box 71 [iv 0,iv 0,iv 0,iv 0,iv 0,iv 0,iv 0,iv 0,iv 0,iv 0,iv 0,iv 0,iv 0,iv 0,iv 0,iv 0])] [(0,.el (En.sysP p n t f) 0),(4,bx 1),(5,.el ([iv r,iv i,iv kp]) 0),(6,bx 2),(7,.el (p.rz.flatMap cRu) (r*18)),(24,bT)] (jK (oS (.box 1 1) (oW (oW (oF (iv (Ns.cntE p n f)) (oC (Zdu (n:=c.st.length) (.tmp 25) (.tmp 29) rfl U67 (by kernel_rfl) (by omega) rfl hn) I0 I0 (oA (sp_lenBsl (.tmp 30) rfl U24) I0 (oS (iv 0) (kN 108 [(1,.box 71 (En.cfV sx c)),(2,.box 71 [iv 0,iv 0,iv 0,iv 0,iv 0,iv 0,iv 0,iv 0,iv 0,iv 0,iv 0,iv 0,iv 0,iv 0,iv 0,iv 0])] [(0,.el (En.sysP p n t f) 0),(4,bx 1),(5,.el ([iv r,iv i,iv kp]) 0),(6,bx 2),(7,.el (p.rz.flatMap cRu) (r*18)),(30,.bsl 1 1 c.st.length),(31,iv c.st.length),(32,iv 0)] (Zf (Zo ?_)))))))))))
 rw [show En.cfV sx c=En.cfV sx (Ap.wst c (Ap.brL p.rz[r] c.st 0)) by rw [Ap.brL_zero];rfl]
 refine ZL (σ:={j:Nat // j≤c.st.length}) (fun s=>(ofL [(1,.box 71 (En.cfV sx (Ap.wst c (Ap.brL p.rz[r] c.st s.1)))),(2,.box 71 [iv 0,iv 0,iv 0,iv 0,iv 0,iv 0,iv 0,iv 0,iv 0,iv 0,iv 0,iv 0,iv 0,iv 0,iv 0,iv 0])],ofT 108 [(0,.el (En.sysP p n t f) 0),(4,bx 1),(5,.el ([iv r,iv i,iv kp]) 0),(6,bx 2),(7,.el (p.rz.flatMap cRu) (r*18)),(30,.bsl 1 1 c.st.length),(31,iv c.st.length),(32,iv s.1)])) (fun s=>c.st.length-s.1) ⟨0,Nat.zero_le _⟩ (Zp _ _) (fun s => ?_)
 obtain ⟨j,hj0⟩:=s
 show ETri J w0 (ofL [(1,.box 71 (En.cfV sx (Ap.wst c (Ap.brL p.rz[r] c.st j)))),(2,.box 71 [iv 0,iv 0,iv 0,iv 0,iv 0,iv 0,iv 0,iv 0,iv 0,iv 0,iv 0,iv 0,iv 0,iv 0,iv 0,iv 0])]) (ofT 108 [(0,.el (En.sysP p n t f) 0),(4,bx 1),(5,.el ([iv r,iv i,iv kp]) 0),(6,bx 2),(7,.el (p.rz.flatMap cRu) (r*18)),(30,.bsl 1 1 c.st.length),(31,iv c.st.length),(32,iv j)]) _
 refine Zl ?_
 by_cases hs2:(j:Int)<(c.st.length:Int)
 have hj1:j<c.st.length:=by omega
 have hst:=Ap.cst_in hc hj1
 have hre:=R.re (by assumption)
 have hrs:(c.st.getD j 0).toNat<p.rz[r].resp.length:=by omega
 refine Za (ol (dT hs2) (jD (Yb rfl (Zq (jC (Zo (jB (oW (oC (ZeA (off':=1+j*1) (.tmp 30) (.tmp 32) rfl U24 (by kernel_rfl) (by omega) (by omega) rfl) I0 I0 (oB (lB (.box 71 (En.cfV sx (Ap.wst c (Ap.brL p.rz[r] c.st j)))) (iv (c.st.getD j 0)) (.tmp 35) rfl U3 rfl (Ap.br_load hj1 l8)) I0 rfl (oS (iv j) (oS (iv (c.st.getD j 0)) (jA (Za (oS (iv j) (oW (oW (oW ?_))))))))))))))))))
 refine oL (Zb p.rz[r].resp) (fT lenRu p.rz r 6) (oS (iv (c.st.getD j 0)) (oC (xS (((c.st.getD j 0).toNat)*1) 41 42 U24) I0 I0 (oL (iv (p.rz[r].resp[(c.st.getD j 0).toNat])) (Zw p.rz[r].resp (by omega)) (oS (.box 1 1) (oC (Z6 (off':=1+j*1) (.tmp 45) (.tmp 37) rfl U67 (by kernel_rfl) (by omega) (by omega) rfl) I0 I0 (Y6 rfl (Yo (T0:=71) (X:=iv (p.rz[r].resp[(c.st.getD j 0).toNat])) (off:=1+j*1) (cs:=En.cfV sx (Ap.wst c (Ap.brL p.rz[r] c.st j))) (ds:=En.cfV sx (Ap.wst c (Ap.brL p.rz[r] c.st (j+1)))) (z:=1) (.tmp 46) (.tmp 44) rfl (by kernel_rfl) (by kernel_rfl) (by kernel_rfl) (by show _≤16;omega) (Ap.br_step hj1 l8 (Ap.brd_at hrs))) ⟨I0,I0,T0⟩ ⟨rfl,T0⟩ rfl (Yh (Zv (Zf (Za (oV ((j+1:Nat):Int) (oS (iv (j+1:Nat)) (kN 108 (XAp1_h3 sx c p.rz[r] j) [(0,.el (En.sysP p n t f) 0),(4,bx 1),(5,.el ([iv r,iv i,iv kp]) 0),(6,bx 2),(7,.el (p.rz.flatMap cRu) (r*18)),(8,iv j),(9,iv (c.st.getD j 0)),(30,.bsl 1 1 c.st.length),(31,iv c.st.length),(32,iv (j+1:Nat)),(33,bT)] (Zf ?_))))))))))))))
 refine Zs ⟨j+1,by omega⟩ (show c.st.length-(j+1)<c.st.length-j by omega) ?_
 show Wk _ _ (ofL (XAp1_h3 sx c p.rz[r] j)) (ofT 108 [(0,.el (En.sysP p n t f) 0),(4,bx 1),(5,.el ([iv r,iv i,iv kp]) 0),(6,bx 2),(7,.el (p.rz.flatMap cRu) (r*18)),(30,.bsl 1 1 c.st.length),(31,iv c.st.length),(32,iv ((j+1):Nat))])
 exact Zp _ _
 refine Za (ol (dF hs2) (kN 108 [(1,.box 71 (En.cfV sx (Ap.wst c (Ap.brL p.rz[r] c.st j)))),(2,.box 71 [iv 0,iv 0,iv 0,iv 0,iv 0,iv 0,iv 0,iv 0,iv 0,iv 0,iv 0,iv 0,iv 0,iv 0,iv 0,iv 0])] [(0,.el (En.sysP p n t f) 0),(4,bx 1),(5,.el ([iv r,iv i,iv kp]) 0),(6,bx 2),(7,.el (p.rz.flatMap cRu) (r*18)),(30,.bsl 1 1 c.st.length),(31,iv c.st.length),(32,iv j),(33,bF)] (jC (ZA rfl (jO ?_)))))
 rw [show En.cfV sx (Ap.wst c (Ap.st0 c p.rz[r]))=En.cfV sx (Ap.wst c (Ap.brL p.rz[r] c.st j)) by rw [Ap.brL_all _ _ (by omega)];unfold Ap.st0;rw [if_pos hs1]]
 exact tM T0
 rw [dF hs1]
 refine kW 108 [(1,.box 71 (En.cfV sx c)),(2,.box 71 [iv 0,iv 0,iv 0,iv 0,iv 0,iv 0,iv 0,iv 0,iv 0,iv 0,iv 0,iv 0,iv 0,iv 0,iv 0,iv 0])] [(0,.el (En.sysP p n t f) 0),(4,bx 1),(5,.el ([iv r,iv i,iv kp]) 0),(6,bx 2),(7,.el (p.rz.flatMap cRu) (r*18)),(24,bF)] (ZA rfl (Zq ?_))
 rw [show En.cfV sx (Ap.wst c (Ap.st0 c p.rz[r]))=En.cfV sx c by unfold Ap.st0;rw [if_neg hs1];rfl]
 exact tM T0
 refine jC ?_
 refine tD (dW (dS (iv i) (dW (dW (dW (dL (iv p.rz[r].to) (fT lenRu p.rz r 3) (dS (.box 1 1) (dC (Z6 (off':=1+i*1) (.tmp 54) (.tmp 49) rfl U67 (by kernel_rfl) (by omega) (by omega) rfl) I0 I0 (dR (Yo (T0:=71) (X:=iv p.rz[r].to) (off:=1+i*1) (cs:=En.cfV sx (Ap.wst c (Ap.st0 c p.rz[r]))) (ds:=En.cfV sx (Ap.wst c (Ap.st1 c p.rz[r] i))) (z:=1) (.tmp 55) (.tmp 53) rfl (by kernel_rfl) (by kernel_rfl) (by kernel_rfl) (by show _≤16;omega) (Ap.cfV_setSt (c:=(Ap.wst c (Ap.st0 c p.rz[r]))) (by omega) (by show i<(Ap.st0 c p.rz[r]).length;rw [Ap.st0_len];exact hi))) ⟨I0,I0,T0⟩ ⟨rfl,T0⟩ rfl (eD ?_))))))))))
 refine kW 108 (Zfg sx c p.rz[r] i) (XAp1_h2 p n t f r i kp) (jC (jB (oW (oK (ZbM hr) [.el (p.rz.flatMap cRu) (r*18)] rfl rfl (kN 108 (Zfg sx c p.rz[r] i) [(0,.el (En.sysP p n t f) 0),(4,bx 1),(5,.el ([iv r,iv i,iv kp]) 0),(6,bx 2),(7,.el (p.rz.flatMap cRu) (r*18)),(57,bv (decide (p.rz[r].kind=2)||decide (p.rz[r].kind=5)))] (Zf ?_))))))
 refine Ym (True) (ofL [(1,.box 71 (En.cfV sx (Ap.mid (n-f) c p.rz[r] i kp 0))),(2,.box 71 [iv 0,iv 0,iv 0,iv 0,iv 0,iv 0,iv 0,iv 0,iv 0,iv 0,iv 0,iv 0,iv 0,iv 0,iv 0,iv 0])]) (ofT 108 [(0,.el (En.sysP p n t f) 0),(4,bx 1),(5,.el ([iv r,iv i,iv kp]) 0),(6,bx 2),(7,.el (p.rz.flatMap cRu) (r*18))]) ?_ (fun _ => ?_)
 by_cases hs3:(decide (p.rz[r].kind=2)||decide (p.rz[r].kind=5))=true
 have hkp:=hpt (En.or_t hs3)
 rw [hs3]
 refine kW 108 (Zfg sx c p.rz[r] i) [(0,.el (En.sysP p n t f) 0),(4,bx 1),(5,.el ([iv r,iv i,iv kp]) 0),(6,bx 2),(7,.el (p.rz.flatMap cRu) (r*18)),(57,bT)] (Yb rfl ?_)
 refine tD (dW (dS (iv kp) (dW (dW (dW (dL (iv p.rz[r].pt) (fT lenRu p.rz r 5) (dS (.box 1 1) (dC (Z6 (off':=1+kp.toNat*1) (.tmp 64) (.tmp 59) rfl U67 (by kernel_rfl) (by omega) (by omega) rfl) I0 I0 (dR (Yo (T0:=71) (X:=iv p.rz[r].pt) (off:=1+kp.toNat*1) (cs:=En.cfV sx (Ap.wst c (Ap.st1 c p.rz[r] i))) (ds:=En.cfV sx (Ap.wst c ((Ap.st1 c p.rz[r] i).set kp.toNat p.rz[r].pt))) (z:=1) (.tmp 65) (.tmp 63) rfl (by kernel_rfl) (by kernel_rfl) (by kernel_rfl) (by show _≤16;omega) (Ap.cfV_setSt (c:=(Ap.wst c (Ap.st1 c p.rz[r] i))) (by omega) (by show kp.toNat<(Ap.st1 c p.rz[r] i).length;rw [Ap.st1_len];omega))) ⟨I0,I0,T0⟩ ⟨rfl,T0⟩ rfl (eD ?_))))))))))
 refine kW 108 [(1,.box 71 (En.cfV sx (Ap.wst c ((Ap.st1 c p.rz[r] i).set kp.toNat p.rz[r].pt)))),(2,.box 71 [iv 0,iv 0,iv 0,iv 0,iv 0,iv 0,iv 0,iv 0,iv 0,iv 0,iv 0,iv 0,iv 0,iv 0,iv 0,iv 0])] [(0,.el (En.sysP p n t f) 0),(4,bx 1),(5,.el ([iv r,iv i,iv kp]) 0),(6,bx 2),(7,.el (p.rz.flatMap cRu) (r*18))] ?_
 rw [show En.cfV sx (Ap.mid (n-f) c p.rz[r] i kp 0)=En.cfV sx (Ap.wst c ((Ap.st1 c p.rz[r] i).set kp.toNat p.rz[r].pt)) by rw [Ap.mid_zero];unfold Ap.stA;rw [if_pos (En.or_t hs3)]]
 exact tM T0
 have hs3f:(decide (p.rz[r].kind=2)||decide (p.rz[r].kind=5))=false:=by simpa using hs3
 rw [hs3f]
 refine kW 108 [(1,.box 71 (En.cfV sx (Ap.wst c (Ap.st1 c p.rz[r] i)))),(2,.box 71 [iv 0,iv 0,iv 0,iv 0,iv 0,iv 0,iv 0,iv 0,iv 0,iv 0,iv 0,iv 0,iv 0,iv 0,iv 0,iv 0])] [(0,.el (En.sysP p n t f) 0),(4,bx 1),(5,.el ([iv r,iv i,iv kp]) 0),(6,bx 2),(7,.el (p.rz.flatMap cRu) (r*18)),(57,bF)] (ZA rfl (Zq ?_))
 rw [show En.cfV sx (Ap.mid (n-f) c p.rz[r] i kp 0)=En.cfV sx (Ap.wst c (Ap.st1 c p.rz[r] i)) by rw [Ap.mid_zero];unfold Ap.stA;rw [if_neg (En.or_f hs3f)]]
 exact tM T0
 refine jC (jB (oW (oW (oW (oL (Zb p.rz[r].send) (fT lenRu p.rz r 12) (oS (iv (p.rz[r].send.length:Nat)) (oS (iv 0) (kN 108 [(1,.box 71 (En.cfV sx (Ap.mid (n-f) c p.rz[r] i kp 0))),(2,.box 71 [iv 0,iv 0,iv 0,iv 0,iv 0,iv 0,iv 0,iv 0,iv 0,iv 0,iv 0,iv 0,iv 0,iv 0,iv 0,iv 0])] [(0,.el (En.sysP p n t f) 0),(4,bx 1),(5,.el ([iv r,iv i,iv kp]) 0),(6,bx 2),(7,.el (p.rz.flatMap cRu) (r*18)),(69,Zb p.rz[r].send),(70,iv (p.rz[r].send.length:Nat)),(71,iv 0)] (Zf (Zo ?_))))))))))
 refine ZL (σ:={k:Nat // k≤p.rz[r].send.length}) (fun s=>(ofL [(1,.box 71 (En.cfV sx (Ap.mid (n-f) c p.rz[r] i kp s.1))),(2,.box 71 [iv 0,iv 0,iv 0,iv 0,iv 0,iv 0,iv 0,iv 0,iv 0,iv 0,iv 0,iv 0,iv 0,iv 0,iv 0,iv 0])],ofT 108 [(0,.el (En.sysP p n t f) 0),(4,bx 1),(5,.el ([iv r,iv i,iv kp]) 0),(6,bx 2),(7,.el (p.rz.flatMap cRu) (r*18)),(69,Zb p.rz[r].send),(70,iv (p.rz[r].send.length:Nat)),(71,iv s.1)])) (fun s=>p.rz[r].send.length-s.1) ⟨0,Nat.zero_le _⟩ (Zp _ _) (fun s => ?_)
 obtain ⟨k,hk0⟩:=s
 show ETri J w0 (ofL (Zff sx n f c p.rz[r] i kp k)) (ofT 108 [(0,.el (En.sysP p n t f) 0),(4,bx 1),(5,.el ([iv r,iv i,iv kp]) 0),(6,bx 2),(7,.el (p.rz.flatMap cRu) (r*18)),(69,Zb p.rz[r].send),(70,iv (p.rz[r].send.length:Nat)),(71,iv k)]) _
 refine Zl ?_
 by_cases hs4:(k:Int)<((p.rz[r].send.length:Nat):Int)
 have hk1:k<p.rz[r].send.length:=by omega
 have hsm:=R.se _ (List.getElem_mem hk1)
 have hb1:=Ap.getD_in (Ap.seA_in (cor:=(n-f)) (r:=p.rz[r]) (i:=i) (k:=k) hc.se) (by omega) p.rz[r].send[k].toNat
 have hb2:=Ap.getD_in (Ap.faA_in (cor:=(n-f)) (r:=p.rz[r]) (i:=i) (k:=k) hc.fa) (by omega) p.rz[r].send[k].toNat
 refine Za (ol (dT hs4) (jD (Yb rfl (Zq (jC (Zo (jB (oC (xS (k*1) 69 71 U24) I0 I0 (oL (iv p.rz[r].send[k]) (Zw p.rz[r].send (by omega)) (oS (iv p.rz[r].send[k]) (jD ?_)))))))))))
 by_cases hs5:(i:Int)<(n-f)
 refine tD (dW (dW (dW (dW (dW (dW (dl (dT hs5) (eD ?_))))))))
 refine kW 108 (Zff sx n f c p.rz[r] i kp k) [(0,.el (En.sysP p n t f) 0),(4,bx 1),(5,.el ([iv r,iv i,iv kp]) 0),(6,bx 2),(7,.el (p.rz.flatMap cRu) (r*18)),(11,iv p.rz[r].send[k]),(69,Zb p.rz[r].send),(70,iv (p.rz[r].send.length:Nat)),(71,iv k),(72,bT),(81,bT)] (Zf (Yb rfl (Za (oS (iv p.rz[r].send[k]) (oS (.box 1 9) (oC (Z6 (off':=9+p.rz[r].send[k].toNat*1) (.tmp 83) (.tmp 82) rfl U69 (by kernel_rfl) (by omega) (by omega) rfl) I0 I0 (oB (lB (.box 71 (En.cfV sx (Ap.mid (n-f) c p.rz[r] i kp k))) (iv ((Ap.seA (n-f) c p.rz[r] i k).getD p.rz[r].send[k].toNat 0)) (.tmp 84) rfl U3 rfl (Ap.cfV_se (c:=(Ap.mid (n-f) c p.rz[r] i kp k)) (by omega))) I0 rfl (oV (((Ap.seA (n-f) c p.rz[r] i k).getD p.rz[r].send[k].toNat 0)+1) (oS (.box 1 9) (oC (Z6 (off':=9+p.rz[r].send[k].toNat*1) (.tmp 87) (.tmp 82) rfl U69 (by kernel_rfl) (by omega) (by omega) rfl) I0 I0 (Y6 rfl (Yo (T0:=71) (X:=iv (((Ap.seA (n-f) c p.rz[r] i k).getD p.rz[r].send[k].toNat 0)+1)) (off:=9+p.rz[r].send[k].toNat*1) (cs:=En.cfV sx (Ap.mid (n-f) c p.rz[r] i kp k)) (ds:=En.cfV sx (Ap.mid (n-f) c p.rz[r] i kp (k+1))) (z:=1) (.tmp 88) (.tmp 86) rfl (by kernel_rfl) (by kernel_rfl) (by kernel_rfl) (by show _≤16;omega) (Ap.se_step hs5 hk1 (by omega) (by omega))) ⟨I0,I0,T0⟩ ⟨rfl,T0⟩ rfl (Yh (Zv (Zf (Za (oV ((k+1:Nat):Int) (oS (iv (k+1:Nat)) (kN 108 (Zdg sx n f c p.rz[r] i kp k) [(0,.el (En.sysP p n t f) 0),(4,bx 1),(5,.el ([iv r,iv i,iv kp]) 0),(6,bx 2),(7,.el (p.rz.flatMap cRu) (r*18)),(11,iv p.rz[r].send[k]),(69,Zb p.rz[r].send),(70,iv (p.rz[r].send.length:Nat)),(71,iv (k+1:Nat)),(72,bT),(81,bT)] (Zf ?_)))))))))))))))))))
 refine Zs ⟨k+1,by omega⟩ (show p.rz[r].send.length-(k+1)<p.rz[r].send.length-k by omega) ?_
 show Wk _ _ (ofL (Zdg sx n f c p.rz[r] i kp k)) (ofT 108 (XAp1_h7 p n t f r i kp p.rz[r] k))
 exact Zp _ _
 refine tD (dW (dW (dW (dW (dW (dW (dl (dF hs5) (eD ?_))))))))
 refine kW 108 (Zff sx n f c p.rz[r] i kp k) [(0,.el (En.sysP p n t f) 0),(4,bx 1),(5,.el ([iv r,iv i,iv kp]) 0),(6,bx 2),(7,.el (p.rz.flatMap cRu) (r*18)),(11,iv p.rz[r].send[k]),(69,Zb p.rz[r].send),(70,iv (p.rz[r].send.length:Nat)),(71,iv k),(72,bT),(81,bF)] (Zf (ZA rfl (Za (oS (iv p.rz[r].send[k]) (oS (.box 1 12) (oC (Z6 (off':=12+p.rz[r].send[k].toNat*1) (.tmp 90) (.tmp 89) rfl U69 (by kernel_rfl) (by omega) (by omega) rfl) I0 I0 (oB (lB (.box 71 (En.cfV sx (Ap.mid (n-f) c p.rz[r] i kp k))) (iv ((Ap.faA (n-f) c p.rz[r] i k).getD p.rz[r].send[k].toNat 0)) (.tmp 91) rfl U3 rfl (En.cfV_fa (c:=(Ap.mid (n-f) c p.rz[r] i kp k)) (by omega))) I0 rfl (oV (((Ap.faA (n-f) c p.rz[r] i k).getD p.rz[r].send[k].toNat 0)+1) (oS (.box 1 12) (oC (Z6 (off':=12+p.rz[r].send[k].toNat*1) (.tmp 94) (.tmp 89) rfl U69 (by kernel_rfl) (by omega) (by omega) rfl) I0 I0 (Y6 rfl (Yo (T0:=71) (X:=iv (((Ap.faA (n-f) c p.rz[r] i k).getD p.rz[r].send[k].toNat 0)+1)) (off:=12+p.rz[r].send[k].toNat*1) (cs:=En.cfV sx (Ap.mid (n-f) c p.rz[r] i kp k)) (ds:=En.cfV sx (Ap.mid (n-f) c p.rz[r] i kp (k+1))) (z:=1) (.tmp 95) (.tmp 93) rfl (by kernel_rfl) (by kernel_rfl) (by kernel_rfl) (by show _≤16;omega) (Ap.fa_step hs5 hk1 (by omega) (by omega))) ⟨I0,I0,T0⟩ ⟨rfl,T0⟩ rfl (Yh (Zv (Zf (Za (oV ((k+1:Nat):Int) (oS (iv (k+1:Nat)) (kN 108 (Zdg sx n f c p.rz[r] i kp k) [(0,.el (En.sysP p n t f) 0),(4,bx 1),(5,.el ([iv r,iv i,iv kp]) 0),(6,bx 2),(7,.el (p.rz.flatMap cRu) (r*18)),(11,iv p.rz[r].send[k]),(69,Zb p.rz[r].send),(70,iv (p.rz[r].send.length:Nat)),(71,iv (k+1:Nat)),(72,bT),(81,bF)] (Zf ?_)))))))))))))))))))
 refine Zs ⟨k+1,by omega⟩ (show p.rz[r].send.length-(k+1)<p.rz[r].send.length-k by omega) ?_
 show Wk _ _ (ofL (Zdg sx n f c p.rz[r] i kp k)) (ofT 108 (XAp1_h7 p n t f r i kp p.rz[r] k))
 exact Zp _ _
 refine Za (ol (dF hs4) (jD (ZA rfl (jO (jC (Zl ?_))))))
 by_cases hs6:0≤p.rz[r].wr
 refine Za (oW (oW (oW (oL (iv p.rz[r].wr) (fT lenRu p.rz r 11) (oh (dT hs6) (jH (Za (oW (oW (oW (oL (iv p.rz[r].wr) (fT lenRu p.rz r 11) (oW (oY (kN 108 [(1,.box 71 [iv sx,iv ((Ap.mid (n-f) c p.rz[r] i kp k).st.getD 0 0),iv ((Ap.mid (n-f) c p.rz[r] i kp k).st.getD 1 0),iv ((Ap.mid (n-f) c p.rz[r] i kp k).st.getD 2 0),iv ((Ap.mid (n-f) c p.rz[r] i kp k).st.getD 3 0),iv ((Ap.mid (n-f) c p.rz[r] i kp k).st.getD 4 0),iv ((Ap.mid (n-f) c p.rz[r] i kp k).st.getD 5 0),iv ((Ap.mid (n-f) c p.rz[r] i kp k).st.getD 6 0),iv ((Ap.mid (n-f) c p.rz[r] i kp k).st.getD 7 0),iv ((Ap.mid (n-f) c p.rz[r] i kp k).se.getD 0 0),iv ((Ap.mid (n-f) c p.rz[r] i kp k).se.getD 1 0),iv ((Ap.mid (n-f) c p.rz[r] i kp k).se.getD 2 0),iv ((Ap.mid (n-f) c p.rz[r] i kp k).fa.getD 0 0),iv ((Ap.mid (n-f) c p.rz[r] i kp k).fa.getD 1 0),iv ((Ap.mid (n-f) c p.rz[r] i kp k).fa.getD 2 0),iv p.rz[r].wr]),(2,.box 71 [iv 0,iv 0,iv 0,iv 0,iv 0,iv 0,iv 0,iv 0,iv 0,iv 0,iv 0,iv 0,iv 0,iv 0,iv 0,iv 0])] [(4,bx 1),(6,bx 2)] (jC (Za (oW (oY (kN 108 [(2,.box 71 [iv sx,iv ((Ap.mid (n-f) c p.rz[r] i kp k).st.getD 0 0),iv ((Ap.mid (n-f) c p.rz[r] i kp k).st.getD 1 0),iv ((Ap.mid (n-f) c p.rz[r] i kp k).st.getD 2 0),iv ((Ap.mid (n-f) c p.rz[r] i kp k).st.getD 3 0),iv ((Ap.mid (n-f) c p.rz[r] i kp k).st.getD 4 0),iv ((Ap.mid (n-f) c p.rz[r] i kp k).st.getD 5 0),iv ((Ap.mid (n-f) c p.rz[r] i kp k).st.getD 6 0),iv ((Ap.mid (n-f) c p.rz[r] i kp k).st.getD 7 0),iv ((Ap.mid (n-f) c p.rz[r] i kp k).se.getD 0 0),iv ((Ap.mid (n-f) c p.rz[r] i kp k).se.getD 1 0),iv ((Ap.mid (n-f) c p.rz[r] i kp k).se.getD 2 0),iv ((Ap.mid (n-f) c p.rz[r] i kp k).fa.getD 0 0),iv ((Ap.mid (n-f) c p.rz[r] i kp k).fa.getD 1 0),iv ((Ap.mid (n-f) c p.rz[r] i kp k).fa.getD 2 0),iv p.rz[r].wr])] [(6,bx 2)] (Zf ?_))))))))))))))))))))
 refine Z4 ?_
 refine Zg Tryz.results40 (.cellS rfl rfl U71 rfl (z:=16) (by kernel_rfl) rfl (by decide)) ?_
 obtain rfl:k=p.rz[r].send.length:=by omega
 unfold Ap.af;rw [if_pos hs6]
 exact rfl
 refine Za (oW (oW (oW (oL (iv p.rz[r].wr) (fT lenRu p.rz r 11) (oh (dF hs6) (jF (jB (oW (oY (kN 108 [(2,.box 71 (En.cfV sx (Ap.mid (n-f) c p.rz[r] i kp k)))] [(6,bx 2)] (Zf (Z4 ?_))))))))))))
 refine Zg Tryz.results40 (.cellS rfl rfl U71 rfl (z:=16) (by kernel_rfl) rfl (by decide)) ?_
 obtain rfl:k=p.rz[r].send.length:=by omega
 unfold Ap.af;rw [if_neg hs6]
 exact rfl
variable {lo:Nat}{w:World}{v:Value}{xs:List Int}
theorem ownIc {F:Nat→Prop} (h:OwnV lo w v xs):Pu F w (nw w lo) (Zb xs) v:=by
 rcases h with ⟨rfl,rfl⟩ | ⟨g,cap,rfl,hl,hm,h1,h2,h3,cur,t,hg,hc⟩
 ·exact .sl0 (by simp [maxLen]) (by simp)
 refine .sl (b:=g) (off:=0) (f:=fun j => .int .i64 (xs.getD j 0)) (by simp) hl hm ⟨h1,_,_,hg⟩ (Array.getElem?_eq_some_iff.1 hg).1 (fun j hj => ?_) fun j hj => ?_
 ·have hj':j<xs.length:=by simpa using hj
  rw [Nat.zero_add,ZH hg j (v := .int .i64 (xs.getD j 0)) (hc j hj')]
 have hj':j<xs.length:=by simpa using hj
 simp only [List.getElem_map,List.getD_eq_getElem?_getD,List.getElem?_eq_getElem hj',Option.getD_some]
 exact .v _
theorem Zdj (hx:InOk xs) (hn:xs.length≤1000):Ctr Tryz.prog J 37 [Zb xs] (Zb xs):=ctr1 fun w v _ h =>
 (Zey (YE hx (fun _ _=>Nat.zero_le _) h) hn).mono fun _ _ ⟨v',he,ho,hb⟩=>⟨v',he,ownIc ho,hb⟩
set_option maxRecDepth 100000 in
set_option maxHeartbeats 6400000 in
theorem write_c (ok:Rd.CgOk c) (hn:(Ns.cntE p n f)=(c.st.length:Int)) (l8:c.st.length≤8) (h3:p.msgs.length≤3) (hls:c.se.length=p.msgs.length) (hlf:c.fa.length=p.msgs.length) (hco:c.cor=(n-f)) (hsx:p.top=4→0≤sx∧sx<(((Ns.shT p.top (Ns.cntE p n f)).length:Nat):Int)∧(Ns.shT p.top (Ns.cntE p n f))[sx.toNat]? = some c.sh) (hs0:¬ p.top=4→c.sh=[]):Ctr Tryz.prog J 24 [.el (En.sysP p n t f) 0,.agg (En.cfV sx c)] (.agg (Rd.cCg c)):=by
 refine Zm Tryz.func24 rfl (pN (show Plain (.el (En.sysP p n t f) 0) from .el (ZN (En.plain_sysP p n t f))) (pN (Zh (En.plain_cfV _ c)) pZ)) (n:=55) rfl (by simp) (fun w0 => ?_)
 refine kW 55 [] [(0,.el (En.sysP p n t f) 0),(1,.agg (En.cfV sx c))] (jB (oA (ZD (X := .agg (En.cfV sx c)) (.tmp 1) rfl rfl rfl) I0 (oZ 1 Z31 (jD ?_))))
 refine tD (dS (.el (En.cfV sx c) 1) (dW (dW (dW (dS (iv (Ns.cntE p n f)) (dC (KC (n:=c.st.length) (off:=1) (ds:=(c.st.map iv)) (.tmp 6) (.tmp 10) rfl U67 (by kernel_rfl) (by omega) (by kernel_rfl) (by unfold maxLen;omega) (by show _≤16;omega) (En.cfV_row l8) hn) I0 I0 (dk (Zdj ok.st (Nat.le_trans ok.lst (by decide))) [Zb c.st] rfl rfl (dW (dW (dW (dS (iv (n-f)) (dS (.el (En.cfV sx c) 9) (dW (dW (dW (dW (dW (dS (iv p.msgs.length) (dC (KC (n:=c.se.length) (off:=9) (ds:=(c.se.map iv)) (.tmp 17) (.tmp 23) rfl U69 (by kernel_rfl) (by omega) (by kernel_rfl) (by unfold maxLen;omega) (by show _≤16;omega) (Ap.cfV_rowSe (by omega)) (by omega)) I0 I0 (dk (Zdj ok.se (Nat.le_trans ok.lse (by decide))) [Zb c.se] rfl rfl (dS (.el (En.cfV sx c) 12) (dW (dW (dW (dW (dW (dS (iv p.msgs.length) (dC (KC (n:=c.fa.length) (off:=12) (ds:=(c.fa.map iv)) (.tmp 26) (.tmp 32) rfl U69 (by kernel_rfl) (by omega) (by kernel_rfl) (by unfold maxLen;omega) (by show _≤16;omega) (Ap.cfV_rowFa (by omega)) (by omega)) I0 I0 (dk (Zdj ok.fa (Nat.le_trans ok.lfa (by decide))) [Zb c.fa] rfl rfl (dW (dS (iv c.val) (dR (ZcL [1,2,3,4,5] [.tmp 12,.tmp 16,.tmp 25,.tmp 34,.tmp 36] [.fr (Zb c.st),iv (n-f),.fr (Zb c.se),.fr (Zb c.fa),iv c.val] [.inl (.slice none 0 0),.inr 0,.inr 1,.inr 2,.inr 3,.inr 4] rfl rfl rfl rfl rfl (fun _=>by kernel_rfl) rfl (ds:=[nz,.fr (Zb c.st),iv (n-f),.fr (Zb c.se),.fr (Zb c.fa),iv c.val]) rfl) ⟨I0,I0,I0,I0,I0,T0⟩ T0 T0 (dz 2 Z31 (dY (eD ?_)))))))))))))))))))))))))))))))))))
 refine kW 55 [(1,.box 31 [nz,nz,iv 0,nz,nz,iv 0]),(2,.box 31 [nz,.fr (Zb c.st),iv (n-f),.fr (Zb c.se),.fr (Zb c.fa),iv c.val])] [(0,.el (En.sysP p n t f) 0),(3,.el (En.cfV sx c) 0),(4,bx 1),(5,bx 2)] (jC (Zl ?_))
 by_cases hs1:0<(((Ns.shT p.top (Ns.cntE p n f)).length:Nat):Int)
 obtain ⟨hx0,hx1,hx2⟩:=hsx (Ap.shT_top hs1)
 refine Za (oW (oW (oW (oW (oW (og (dT hs1) (jH ?_)))))))
 refine tD (dW (dW (dW (dS (slA 1 cLi (Ns.shT p.top (Ns.cntE p n f))) (dW (dS (iv sx) (dC (xS (sx.toNat*1) 47 49 U61) I0 I0 (dA (lE (Zb c.sh) 50 U24 (Ap.sh_at hx2)) I0 (dk (Zdj ok.sh (Nat.le_trans ok.lsh (by decide))) [Zb c.sh] rfl rfl (dW (dY (eD ?_))))))))))))
 refine kW 55 [(1,.box 31 [nz,nz,iv 0,nz,nz,iv 0]),(2,.box 31 [.fr (Zb c.sh),.fr (Zb c.st),iv (n-f),.fr (Zb c.se),.fr (Zb c.fa),iv c.val])] [(4,bx 1),(5,bx 2)] (jC (Za (oW (oY (kN 55 [(1,.box 31 [.fr (Zb c.sh),.fr (Zb c.st),iv (n-f),.fr (Zb c.se),.fr (Zb c.fa),iv c.val])] [(4,bx 1)] (Zf (Z4 ?_)))))))
 refine Zg Tryz.results24 (.cellS rfl rfl U31 rfl (z:=6) (by kernel_rfl) rfl (by decide)) ?_
 rw [← hco]
 exact rfl
 refine Za (oW (oW (oW (oW (oW (og (dF hs1) (jF (jB (oW (oY (kN 55 [(1,.box 31 [nz,.fr (Zb c.st),iv (n-f),.fr (Zb c.se),.fr (Zb c.fa),iv c.val])] [(4,bx 1)] (Zf (Z4 ?_)))))))))))))
 refine Yk (Yp 1 0 3 true 3 1 rfl rfl rfl rfl) ?_
 refine Zg Tryz.results24 (.cellS rfl rfl U31 rfl (z:=6) (by kernel_rfl) rfl (by decide)) ?_
 have e0:c.sh=[]:=(Decidable.em (p.top=4)).elim (fun e4=>by have h1:=hsx e4;have h2:=hs1;omega) hs0
 unfold Rd.cCg;rw [← hco,e0]
 exact rfl
set_option maxRecDepth 100000
set_option maxHeartbeats 6400000
abbrev XAp3_h1 (x0:Fm) (x1:Int) (x2:Int) (x3:Int) (x4:Cf) (x5:Nat) (x6:Nat) (x7:Int):List (Nat × AV):=[(0,.el (En.sysP x0 x1 x2 x3) 0),(1,.agg (En.cfV (Rd.shI x0.top (Ns.shT x0.top (Ns.cntE x0 x1 x3)) x4.sh) x4)),(2,.agg [iv x5,iv x6,iv x7])]
abbrev XAp3_h2 (x0:Fm) (x1:Int) (x2:Int) (x3:Cf):List (Nat × ABlk):=[(1,.box 71 (En.cfV (Rd.shI x0.top (Ns.shT x0.top (Ns.cntE x0 x1 x2)) x3.sh) x3)),(2,.box 71 [iv 0,iv 0,iv 0,iv 0,iv 0,iv 0,iv 0,iv 0,iv 0,iv 0,iv 0,iv 0,iv 0,iv 0,iv 0,iv 0])]
abbrev XAp3_h3 (x0:Fm) (x1:Int) (x2:Int) (x3:Int) (x4:Nat) (x5:Nat) (x6:Int):List (Nat × AV):=[(0,.el (En.sysP x0 x1 x2 x3) 0),(4,bx 1),(5,.el ([iv x4,iv x5,iv x6]) 0),(6,bx 2),(7,iv 0),(15,bF)]
abbrev Zdf (x0:Fm) (x1:Int) (x2:Int) (x3:Cf) (x4:Ru) (x5:Nat) (x6:Int):List (Nat × ABlk):=[(1,.box 71 [iv (Rd.shI x0.top (Ns.shT x0.top (Ns.cntE x0 x1 x2)) x3.sh),iv ((Ap.af (x1-x2) x3 x4 x5 x6).st.getD 0 0),iv ((Ap.af (x1-x2) x3 x4 x5 x6).st.getD 1 0),iv ((Ap.af (x1-x2) x3 x4 x5 x6).st.getD 2 0),iv ((Ap.af (x1-x2) x3 x4 x5 x6).st.getD 3 0),iv ((Ap.af (x1-x2) x3 x4 x5 x6).st.getD 4 0),iv ((Ap.af (x1-x2) x3 x4 x5 x6).st.getD 5 0),iv ((Ap.af (x1-x2) x3 x4 x5 x6).st.getD 6 0),iv ((Ap.af (x1-x2) x3 x4 x5 x6).st.getD 7 0),iv ((Ap.af (x1-x2) x3 x4 x5 x6).se.getD 0 0),iv ((Ap.af (x1-x2) x3 x4 x5 x6).se.getD 1 0),iv ((Ap.af (x1-x2) x3 x4 x5 x6).se.getD 2 0),iv ((Ap.af (x1-x2) x3 x4 x5 x6).fa.getD 0 0),iv ((Ap.af (x1-x2) x3 x4 x5 x6).fa.getD 1 0),iv ((Ap.af (x1-x2) x3 x4 x5 x6).fa.getD 2 0),iv ((Ap.af (x1-x2) x3 x4 x5 x6).val)]),(2,.box 71 [iv 0,iv 0,iv 0,iv 0,iv 0,iv 0,iv 0,iv 0,iv 0,iv 0,iv 0,iv 0,iv 0,iv 0,iv 0,iv 0])]
abbrev Zde:List (Nat × AV):=[(4,bx 1),(6,bx 2),(7,iv 0)]
abbrev Zdd:List (Nat × ABlk):=[(2,.box 71 [iv 0,iv 0,iv 0,iv 0,iv 0,iv 0,iv 0,iv 0,iv 0,iv 0,iv 0,iv 0,iv 0,iv 0,iv 0,iv 0])]
abbrev XAp3_h7 (x0:Fm) (x1:Int) (x2:Int) (x3:Cf) (x4:Ru) (x5:Nat) (x6:Int):List (Nat × AV):=[(4,.el ([iv (Rd.shI x0.top (Ns.shT x0.top (Ns.cntE x0 x1 x2)) x3.sh),iv ((Ap.af (x1-x2) x3 x4 x5 x6).st.getD 0 0),iv ((Ap.af (x1-x2) x3 x4 x5 x6).st.getD 1 0),iv ((Ap.af (x1-x2) x3 x4 x5 x6).st.getD 2 0),iv ((Ap.af (x1-x2) x3 x4 x5 x6).st.getD 3 0),iv ((Ap.af (x1-x2) x3 x4 x5 x6).st.getD 4 0),iv ((Ap.af (x1-x2) x3 x4 x5 x6).st.getD 5 0),iv ((Ap.af (x1-x2) x3 x4 x5 x6).st.getD 6 0),iv ((Ap.af (x1-x2) x3 x4 x5 x6).st.getD 7 0),iv ((Ap.af (x1-x2) x3 x4 x5 x6).se.getD 0 0),iv ((Ap.af (x1-x2) x3 x4 x5 x6).se.getD 1 0),iv ((Ap.af (x1-x2) x3 x4 x5 x6).se.getD 2 0),iv ((Ap.af (x1-x2) x3 x4 x5 x6).fa.getD 0 0),iv ((Ap.af (x1-x2) x3 x4 x5 x6).fa.getD 1 0),iv ((Ap.af (x1-x2) x3 x4 x5 x6).fa.getD 2 0),iv ((Ap.af (x1-x2) x3 x4 x5 x6).val)]) 0),(6,bx 2),(7,iv 0)]
abbrev XAp3_h8 (x0:Fm) (x1:Int) (x2:Int) (x3:Cf) (x4:Ru) (x5:Nat) (x6:Int):List (Nat × ABlk):=[(2,.box 71 ([iv (Rd.shI x0.top (Ns.shT x0.top (Ns.cntE x0 x1 x2)) x3.sh),iv ((Ap.af (x1-x2) x3 x4 x5 x6).st.getD 0 0),iv ((Ap.af (x1-x2) x3 x4 x5 x6).st.getD 1 0),iv ((Ap.af (x1-x2) x3 x4 x5 x6).st.getD 2 0),iv ((Ap.af (x1-x2) x3 x4 x5 x6).st.getD 3 0),iv ((Ap.af (x1-x2) x3 x4 x5 x6).st.getD 4 0),iv ((Ap.af (x1-x2) x3 x4 x5 x6).st.getD 5 0),iv ((Ap.af (x1-x2) x3 x4 x5 x6).st.getD 6 0),iv ((Ap.af (x1-x2) x3 x4 x5 x6).st.getD 7 0),iv ((Ap.af (x1-x2) x3 x4 x5 x6).se.getD 0 0),iv ((Ap.af (x1-x2) x3 x4 x5 x6).se.getD 1 0),iv ((Ap.af (x1-x2) x3 x4 x5 x6).se.getD 2 0),iv ((Ap.af (x1-x2) x3 x4 x5 x6).fa.getD 0 0),iv ((Ap.af (x1-x2) x3 x4 x5 x6).fa.getD 1 0),iv ((Ap.af (x1-x2) x3 x4 x5 x6).fa.getD 2 0),iv ((Ap.af (x1-x2) x3 x4 x5 x6).val)]))]
theorem apply_ok (HL:FamLen p) (hc:En.CfV p n f c) (hv:valE p=0) (l8:c.st.length≤8) (hf:0≤f∧f≤1048576) (hr:r<p.rz.length) (hi:i<c.st.length) (he:En.enB p n t f c (En.hdJ p f c p.msgs.length) (r:Int) (i:Int) kp=true) (hl:Rd.belB (Ap.af (n-f) c p.rz[r] i kp).se 1048577=true∧Rd.belB (Ap.af (n-f) c p.rz[r] i kp).fa 1048577=true):Ctr Tryz.prog J 23 [.el (En.sysP p n t f) 0,.agg (En.cfV (Rd.shI p.top (Ns.shT p.top (Ns.cntE p n f)) c.sh) c),.agg [iv r,iv i,iv kp]] (.tup [.agg (En.cfV (Rd.shI p.top (Ns.shT p.top (Ns.cntE p n f)) c.sh) (Ap.af (n-f) c p.rz[r] i kp)),iv 0]):=by
 have hz:=En.val_sizes hv
 have hls:=hc.ls
 have hlf:=hc.lf
 refine Zm Tryz.func23 rfl (pN (show Plain (.el (En.sysP p n t f) 0) from .el (ZN (En.plain_sysP p n t f))) (pN (Zh (En.plain_cfV _ c)) (pN (Zh (pN (.v _) (pN (.v _) (pN (.v _) pZ)))) pZ))) (n:=33) rfl (by simp) (fun w0 => ?_)
 refine kW 33 [] (XAp3_h1 p n t f c r i kp) (jB (oX 1 (.agg (En.cfV (Rd.shI p.top (Ns.shT p.top (Ns.cntE p n f)) c.sh) c)) (oA (ZD (X := .agg [iv r,iv i,iv kp]) (.tmp 2) rfl rfl rfl) I0 (oZ 2 Z71 (oS (iv 0) (jD (Zl ?_)))))))
 refine tD (dS (.el (En.sysP p n t f) 0) (dS (.agg (En.cfV (Rd.shI p.top (Ns.shT p.top (Ns.cntE p n f)) c.sh) c)) (dA (Zj (z:=3) (.tmp 5) rfl U35 rfl (by kernel_rfl) rfl rfl) I0 (dW (dW (dk (ZeU hc hf hz.2.2.1) [.el (En.sysP p n t f) 0,.agg (En.cfV (Rd.shI p.top (Ns.shT p.top (Ns.cntE p n f)) c.sh) c)] rfl rfl (dR (sc #[.tmp 8,.tmp 9,.tmp 10,.tmp 13] [] (Zr (ZbS HL hc hv l8 (fun m=>En.hdJ_in hc hf _ m)) he) [.el (En.sysP p n t f) 0,.agg (En.cfV (Rd.shI p.top (Ns.shT p.top (Ns.cntE p n f)) c.sh) c),.agg ([iv r,iv i,iv kp]),.agg (En.msA (En.hdJ p f c p.msgs.length))] rfl rfl rfl) ⟨I0,I0,I0,I0,.inr (.inl rfl),T0⟩ T0 T0 (dS bF (eD ?_)))))))))
 refine kW 33 (XAp3_h2 p n f c) (XAp3_h3 p n t f r i kp) (jJ (jB (oW (oW (oA (Zj (z:=3) (.tmp 5) rfl U35 rfl (by kernel_rfl) rfl rfl) I0 (oK (after_c HL hc hv l8 hr hi (kp:=kp) (Ap.hpt_of he)) [.el (En.sysP p n t f) 0,.agg (En.cfV (Rd.shI p.top (Ns.shT p.top (Ns.cntE p n f)) c.sh) c),.agg ([iv r,iv i,iv kp])] rfl rfl (Y6 rfl (sB 16 4 (.tmp 20) (.agg [iv (Rd.shI p.top (Ns.shT p.top (Ns.cntE p n f)) c.sh),iv ((Ap.af (n-f) c p.rz[r] i kp).st.getD 0 0),iv ((Ap.af (n-f) c p.rz[r] i kp).st.getD 1 0),iv ((Ap.af (n-f) c p.rz[r] i kp).st.getD 2 0),iv ((Ap.af (n-f) c p.rz[r] i kp).st.getD 3 0),iv ((Ap.af (n-f) c p.rz[r] i kp).st.getD 4 0),iv ((Ap.af (n-f) c p.rz[r] i kp).st.getD 5 0),iv ((Ap.af (n-f) c p.rz[r] i kp).st.getD 6 0),iv ((Ap.af (n-f) c p.rz[r] i kp).st.getD 7 0),iv ((Ap.af (n-f) c p.rz[r] i kp).se.getD 0 0),iv ((Ap.af (n-f) c p.rz[r] i kp).se.getD 1 0),iv ((Ap.af (n-f) c p.rz[r] i kp).se.getD 2 0),iv ((Ap.af (n-f) c p.rz[r] i kp).fa.getD 0 0),iv ((Ap.af (n-f) c p.rz[r] i kp).fa.getD 1 0),iv ((Ap.af (n-f) c p.rz[r] i kp).fa.getD 2 0),iv ((Ap.af (n-f) c p.rz[r] i kp).val)])) ⟨I0,.inr (.inr (.inl ⟨_,rfl,rfl⟩)),T0⟩ ⟨rfl,T0⟩ rfl (kN 33 (Zdf p n f c p.rz[r] i kp) Zde (jC (Zl (kW 33 (Zdf p n f c p.rz[r] i kp) Zde ?_)))))))))))
 refine Yk (Zav 4 1 0 rfl rfl rfl rfl) ?_
 refine kW 33 Zdd (XAp3_h7 p n f c p.rz[r] i kp) (Za (oS (.el ([iv (Rd.shI p.top (Ns.shT p.top (Ns.cntE p n f)) c.sh),iv ((Ap.af (n-f) c p.rz[r] i kp).st.getD 0 0),iv ((Ap.af (n-f) c p.rz[r] i kp).st.getD 1 0),iv ((Ap.af (n-f) c p.rz[r] i kp).st.getD 2 0),iv ((Ap.af (n-f) c p.rz[r] i kp).st.getD 3 0),iv ((Ap.af (n-f) c p.rz[r] i kp).st.getD 4 0),iv ((Ap.af (n-f) c p.rz[r] i kp).st.getD 5 0),iv ((Ap.af (n-f) c p.rz[r] i kp).st.getD 6 0),iv ((Ap.af (n-f) c p.rz[r] i kp).st.getD 7 0),iv ((Ap.af (n-f) c p.rz[r] i kp).se.getD 0 0),iv ((Ap.af (n-f) c p.rz[r] i kp).se.getD 1 0),iv ((Ap.af (n-f) c p.rz[r] i kp).se.getD 2 0),iv ((Ap.af (n-f) c p.rz[r] i kp).fa.getD 0 0),iv ((Ap.af (n-f) c p.rz[r] i kp).fa.getD 1 0),iv ((Ap.af (n-f) c p.rz[r] i kp).fa.getD 2 0),iv ((Ap.af (n-f) c p.rz[r] i kp).val)]) 9) (oA (Yw (len:=3) (off:=9) (ds:=(([(Ap.af (n-f) c p.rz[r] i kp).se.getD 0 0,(Ap.af (n-f) c p.rz[r] i kp).se.getD 1 0,(Ap.af (n-f) c p.rz[r] i kp).se.getD 2 0]).map iv)) (.tmp 21) rfl U69 (by kernel_rfl) rfl rfl (by kernel_rfl) rfl) I0 (oK (Zr (Zr (Yj ([(Ap.af (n-f) c p.rz[r] i kp).se.getD 0 0,(Ap.af (n-f) c p.rz[r] i kp).se.getD 1 0,(Ap.af (n-f) c p.rz[r] i kp).se.getD 2 0]) (by simp)) (Ap.bel3 (l:=(Ap.af (n-f) c p.rz[r] i kp).se) (by show (Ap.seA _ _ _ _ _).length≤3;rw [Ap.seA_len];omega) (by decide))) hl.1) [Zb ([(Ap.af (n-f) c p.rz[r] i kp).se.getD 0 0,(Ap.af (n-f) c p.rz[r] i kp).se.getD 1 0,(Ap.af (n-f) c p.rz[r] i kp).se.getD 2 0]),iv 1048577] rfl rfl (oF bF (oS (.el ([iv (Rd.shI p.top (Ns.shT p.top (Ns.cntE p n f)) c.sh),iv ((Ap.af (n-f) c p.rz[r] i kp).st.getD 0 0),iv ((Ap.af (n-f) c p.rz[r] i kp).st.getD 1 0),iv ((Ap.af (n-f) c p.rz[r] i kp).st.getD 2 0),iv ((Ap.af (n-f) c p.rz[r] i kp).st.getD 3 0),iv ((Ap.af (n-f) c p.rz[r] i kp).st.getD 4 0),iv ((Ap.af (n-f) c p.rz[r] i kp).st.getD 5 0),iv ((Ap.af (n-f) c p.rz[r] i kp).st.getD 6 0),iv ((Ap.af (n-f) c p.rz[r] i kp).st.getD 7 0),iv ((Ap.af (n-f) c p.rz[r] i kp).se.getD 0 0),iv ((Ap.af (n-f) c p.rz[r] i kp).se.getD 1 0),iv ((Ap.af (n-f) c p.rz[r] i kp).se.getD 2 0),iv ((Ap.af (n-f) c p.rz[r] i kp).fa.getD 0 0),iv ((Ap.af (n-f) c p.rz[r] i kp).fa.getD 1 0),iv ((Ap.af (n-f) c p.rz[r] i kp).fa.getD 2 0),iv ((Ap.af (n-f) c p.rz[r] i kp).val)]) 12) (gA (Yw (len:=3) (off:=12) (ds:=(([(Ap.af (n-f) c p.rz[r] i kp).fa.getD 0 0,(Ap.af (n-f) c p.rz[r] i kp).fa.getD 1 0,(Ap.af (n-f) c p.rz[r] i kp).fa.getD 2 0]).map iv)) (.tmp 26) rfl U69 (by kernel_rfl) rfl rfl (by kernel_rfl) rfl) I0 (oK (Zr (Zr (Yj ([(Ap.af (n-f) c p.rz[r] i kp).fa.getD 0 0,(Ap.af (n-f) c p.rz[r] i kp).fa.getD 1 0,(Ap.af (n-f) c p.rz[r] i kp).fa.getD 2 0]) (by simp)) (Ap.bel3 (l:=(Ap.af (n-f) c p.rz[r] i kp).fa) (by show (Ap.faA _ _ _ _ _).length≤3;rw [Ap.faA_len];omega) (by decide))) hl.2) [Zb ([(Ap.af (n-f) c p.rz[r] i kp).fa.getD 0 0,(Ap.af (n-f) c p.rz[r] i kp).fa.getD 1 0,(Ap.af (n-f) c p.rz[r] i kp).fa.getD 2 0]),iv 1048577] rfl rfl (oW (oS bF (jF (jB (oA (Zj (z:=16) (.tmp 4) rfl U71 rfl (by kernel_rfl) rfl rfl) I0 (oY (oS (iv 0) (kN 33 (XAp3_h8 p n f c p.rz[r] i kp) [(6,bx 2),(7,iv 0)] (Zf (Z4 ?_))))))))))))))))))
 refine ZQ Tryz.results23 (.cellS rfl rfl U71 rfl (z:=16) (by kernel_rfl) rfl (by decide)) (.tmp rfl) ?_
 exact rfl
abbrev XAp3_h9 (x0:Fm) (x1:Int) (x2:Int) (x3:Cf) (x4:Ru) (x5:Nat) (x6:Int):List (Nat × AV):=[(4,.el ([iv (Rd.shI x0.top (Ns.shT x0.top (Ns.cntE x0 x1 x2)) x3.sh),iv ((Ap.af (x1-x2) x3 x4 x5 x6).st.getD 0 0),iv ((Ap.af (x1-x2) x3 x4 x5 x6).st.getD 1 0),iv ((Ap.af (x1-x2) x3 x4 x5 x6).st.getD 2 0),iv ((Ap.af (x1-x2) x3 x4 x5 x6).st.getD 3 0),iv ((Ap.af (x1-x2) x3 x4 x5 x6).st.getD 4 0),iv ((Ap.af (x1-x2) x3 x4 x5 x6).st.getD 5 0),iv ((Ap.af (x1-x2) x3 x4 x5 x6).st.getD 6 0),iv ((Ap.af (x1-x2) x3 x4 x5 x6).st.getD 7 0),iv ((Ap.af (x1-x2) x3 x4 x5 x6).se.getD 0 0),iv ((Ap.af (x1-x2) x3 x4 x5 x6).se.getD 1 0),iv ((Ap.af (x1-x2) x3 x4 x5 x6).se.getD 2 0),iv ((Ap.af (x1-x2) x3 x4 x5 x6).fa.getD 0 0),iv ((Ap.af (x1-x2) x3 x4 x5 x6).fa.getD 1 0),iv ((Ap.af (x1-x2) x3 x4 x5 x6).fa.getD 2 0),iv ((Ap.af (x1-x2) x3 x4 x5 x6).val)]) 0),(6,bx 2),(7,iv 4)]
theorem apply_lg (HL:FamLen p) (hc:En.CfV p n f c) (hv:valE p=0) (l8:c.st.length≤8) (hf:0≤f∧f≤1048576) (hr:r<p.rz.length) (hi:i<c.st.length) (he:En.enB p n t f c (En.hdJ p f c p.msgs.length) (r:Int) (i:Int) kp=true) (hl:¬ (Rd.belB (Ap.af (n-f) c p.rz[r] i kp).se 1048577=true∧Rd.belB (Ap.af (n-f) c p.rz[r] i kp).fa 1048577=true)):Ctr Tryz.prog J 23 [.el (En.sysP p n t f) 0,.agg (En.cfV (Rd.shI p.top (Ns.shT p.top (Ns.cntE p n f)) c.sh) c),.agg [iv r,iv i,iv kp]] (.tup [.agg Ap.z16,iv 4]):=by
 have hz:=En.val_sizes hv
 have hls:=hc.ls
 have hlf:=hc.lf
 refine Zm Tryz.func23 rfl (pN (show Plain (.el (En.sysP p n t f) 0) from .el (ZN (En.plain_sysP p n t f))) (pN (Zh (En.plain_cfV _ c)) (pN (Zh (pN (.v _) (pN (.v _) (pN (.v _) pZ)))) pZ))) (n:=33) rfl (by simp) (fun w0 => ?_)
 refine kW 33 [] (XAp3_h1 p n t f c r i kp) (jB (oX 1 (.agg (En.cfV (Rd.shI p.top (Ns.shT p.top (Ns.cntE p n f)) c.sh) c)) (oA (ZD (X := .agg [iv r,iv i,iv kp]) (.tmp 2) rfl rfl rfl) I0 (oZ 2 Z71 (oS (iv 0) (jD (Zl ?_)))))))
 refine tD (dS (.el (En.sysP p n t f) 0) (dS (.agg (En.cfV (Rd.shI p.top (Ns.shT p.top (Ns.cntE p n f)) c.sh) c)) (dA (Zj (z:=3) (.tmp 5) rfl U35 rfl (by kernel_rfl) rfl rfl) I0 (dW (dW (dk (ZeU hc hf hz.2.2.1) [.el (En.sysP p n t f) 0,.agg (En.cfV (Rd.shI p.top (Ns.shT p.top (Ns.cntE p n f)) c.sh) c)] rfl rfl (dR (sc #[.tmp 8,.tmp 9,.tmp 10,.tmp 13] [] (Zr (ZbS HL hc hv l8 (fun m=>En.hdJ_in hc hf _ m)) he) [.el (En.sysP p n t f) 0,.agg (En.cfV (Rd.shI p.top (Ns.shT p.top (Ns.cntE p n f)) c.sh) c),.agg ([iv r,iv i,iv kp]),.agg (En.msA (En.hdJ p f c p.msgs.length))] rfl rfl rfl) ⟨I0,I0,I0,I0,.inr (.inl rfl),T0⟩ T0 T0 (dS bF (eD ?_)))))))))
 refine kW 33 (XAp3_h2 p n f c) (XAp3_h3 p n t f r i kp) (jJ (jB (oW (oW (oA (Zj (z:=3) (.tmp 5) rfl U35 rfl (by kernel_rfl) rfl rfl) I0 (oK (after_c HL hc hv l8 hr hi (kp:=kp) (Ap.hpt_of he)) [.el (En.sysP p n t f) 0,.agg (En.cfV (Rd.shI p.top (Ns.shT p.top (Ns.cntE p n f)) c.sh) c),.agg ([iv r,iv i,iv kp])] rfl rfl (Y6 rfl (sB 16 4 (.tmp 20) (.agg [iv (Rd.shI p.top (Ns.shT p.top (Ns.cntE p n f)) c.sh),iv ((Ap.af (n-f) c p.rz[r] i kp).st.getD 0 0),iv ((Ap.af (n-f) c p.rz[r] i kp).st.getD 1 0),iv ((Ap.af (n-f) c p.rz[r] i kp).st.getD 2 0),iv ((Ap.af (n-f) c p.rz[r] i kp).st.getD 3 0),iv ((Ap.af (n-f) c p.rz[r] i kp).st.getD 4 0),iv ((Ap.af (n-f) c p.rz[r] i kp).st.getD 5 0),iv ((Ap.af (n-f) c p.rz[r] i kp).st.getD 6 0),iv ((Ap.af (n-f) c p.rz[r] i kp).st.getD 7 0),iv ((Ap.af (n-f) c p.rz[r] i kp).se.getD 0 0),iv ((Ap.af (n-f) c p.rz[r] i kp).se.getD 1 0),iv ((Ap.af (n-f) c p.rz[r] i kp).se.getD 2 0),iv ((Ap.af (n-f) c p.rz[r] i kp).fa.getD 0 0),iv ((Ap.af (n-f) c p.rz[r] i kp).fa.getD 1 0),iv ((Ap.af (n-f) c p.rz[r] i kp).fa.getD 2 0),iv ((Ap.af (n-f) c p.rz[r] i kp).val)])) ⟨I0,.inr (.inr (.inl ⟨_,rfl,rfl⟩)),T0⟩ ⟨rfl,T0⟩ rfl (kN 33 (Zdf p n f c p.rz[r] i kp) Zde (jC (Zl (kW 33 (Zdf p n f c p.rz[r] i kp) Zde ?_)))))))))))
 refine Yk (Zav 4 1 0 rfl rfl rfl rfl) ?_
 refine kW 33 Zdd (XAp3_h7 p n f c p.rz[r] i kp) ?_
 by_cases hs1:(Rd.belB (Ap.af (n-f) c p.rz[r] i kp).se 1048577)=true
 by_cases hs2:(Rd.belB (Ap.af (n-f) c p.rz[r] i kp).fa 1048577)=true
 refine Za (oS (.el ([iv (Rd.shI p.top (Ns.shT p.top (Ns.cntE p n f)) c.sh),iv ((Ap.af (n-f) c p.rz[r] i kp).st.getD 0 0),iv ((Ap.af (n-f) c p.rz[r] i kp).st.getD 1 0),iv ((Ap.af (n-f) c p.rz[r] i kp).st.getD 2 0),iv ((Ap.af (n-f) c p.rz[r] i kp).st.getD 3 0),iv ((Ap.af (n-f) c p.rz[r] i kp).st.getD 4 0),iv ((Ap.af (n-f) c p.rz[r] i kp).st.getD 5 0),iv ((Ap.af (n-f) c p.rz[r] i kp).st.getD 6 0),iv ((Ap.af (n-f) c p.rz[r] i kp).st.getD 7 0),iv ((Ap.af (n-f) c p.rz[r] i kp).se.getD 0 0),iv ((Ap.af (n-f) c p.rz[r] i kp).se.getD 1 0),iv ((Ap.af (n-f) c p.rz[r] i kp).se.getD 2 0),iv ((Ap.af (n-f) c p.rz[r] i kp).fa.getD 0 0),iv ((Ap.af (n-f) c p.rz[r] i kp).fa.getD 1 0),iv ((Ap.af (n-f) c p.rz[r] i kp).fa.getD 2 0),iv ((Ap.af (n-f) c p.rz[r] i kp).val)]) 9) (oA (Yw (len:=3) (off:=9) (ds:=(([(Ap.af (n-f) c p.rz[r] i kp).se.getD 0 0,(Ap.af (n-f) c p.rz[r] i kp).se.getD 1 0,(Ap.af (n-f) c p.rz[r] i kp).se.getD 2 0]).map iv)) (.tmp 21) rfl U69 (by kernel_rfl) rfl rfl (by kernel_rfl) rfl) I0 (oK (Zr (Zr (Yj ([(Ap.af (n-f) c p.rz[r] i kp).se.getD 0 0,(Ap.af (n-f) c p.rz[r] i kp).se.getD 1 0,(Ap.af (n-f) c p.rz[r] i kp).se.getD 2 0]) (by simp)) (Ap.bel3 (l:=(Ap.af (n-f) c p.rz[r] i kp).se) (by show (Ap.seA _ _ _ _ _).length≤3;rw [Ap.seA_len];omega) (by decide))) hs1) [Zb ([(Ap.af (n-f) c p.rz[r] i kp).se.getD 0 0,(Ap.af (n-f) c p.rz[r] i kp).se.getD 1 0,(Ap.af (n-f) c p.rz[r] i kp).se.getD 2 0]),iv 1048577] rfl rfl (oF bF (oS (.el ([iv (Rd.shI p.top (Ns.shT p.top (Ns.cntE p n f)) c.sh),iv ((Ap.af (n-f) c p.rz[r] i kp).st.getD 0 0),iv ((Ap.af (n-f) c p.rz[r] i kp).st.getD 1 0),iv ((Ap.af (n-f) c p.rz[r] i kp).st.getD 2 0),iv ((Ap.af (n-f) c p.rz[r] i kp).st.getD 3 0),iv ((Ap.af (n-f) c p.rz[r] i kp).st.getD 4 0),iv ((Ap.af (n-f) c p.rz[r] i kp).st.getD 5 0),iv ((Ap.af (n-f) c p.rz[r] i kp).st.getD 6 0),iv ((Ap.af (n-f) c p.rz[r] i kp).st.getD 7 0),iv ((Ap.af (n-f) c p.rz[r] i kp).se.getD 0 0),iv ((Ap.af (n-f) c p.rz[r] i kp).se.getD 1 0),iv ((Ap.af (n-f) c p.rz[r] i kp).se.getD 2 0),iv ((Ap.af (n-f) c p.rz[r] i kp).fa.getD 0 0),iv ((Ap.af (n-f) c p.rz[r] i kp).fa.getD 1 0),iv ((Ap.af (n-f) c p.rz[r] i kp).fa.getD 2 0),iv ((Ap.af (n-f) c p.rz[r] i kp).val)]) 12) (gA (Yw (len:=3) (off:=12) (ds:=(([(Ap.af (n-f) c p.rz[r] i kp).fa.getD 0 0,(Ap.af (n-f) c p.rz[r] i kp).fa.getD 1 0,(Ap.af (n-f) c p.rz[r] i kp).fa.getD 2 0]).map iv)) (.tmp 26) rfl U69 (by kernel_rfl) rfl rfl (by kernel_rfl) rfl) I0 (oK (Zr (Zr (Yj ([(Ap.af (n-f) c p.rz[r] i kp).fa.getD 0 0,(Ap.af (n-f) c p.rz[r] i kp).fa.getD 1 0,(Ap.af (n-f) c p.rz[r] i kp).fa.getD 2 0]) (by simp)) (Ap.bel3 (l:=(Ap.af (n-f) c p.rz[r] i kp).fa) (by show (Ap.faA _ _ _ _ _).length≤3;rw [Ap.faA_len];omega) (by decide))) hs2) [Zb ([(Ap.af (n-f) c p.rz[r] i kp).fa.getD 0 0,(Ap.af (n-f) c p.rz[r] i kp).fa.getD 1 0,(Ap.af (n-f) c p.rz[r] i kp).fa.getD 2 0]),iv 1048577] rfl rfl (oW (oS bF (jF (jB (oA (Zj (z:=16) (.tmp 4) rfl U71 rfl (by kernel_rfl) rfl rfl) I0 (oY (oS (iv 0) (kN 33 (XAp3_h8 p n f c p.rz[r] i kp) [(6,bx 2),(7,iv 0)] (Zf (Z4 ?_)))))))))))))))))
 refine ZQ Tryz.results23 (.cellS rfl rfl U71 rfl (z:=16) (by kernel_rfl) rfl (by decide)) (.tmp rfl) ?_
 exact absurd ⟨hs1,hs2⟩ hl
 have hs2f:(Rd.belB (Ap.af (n-f) c p.rz[r] i kp).fa 1048577)=false:=by simpa using hs2
 refine Za (oS (.el ([iv (Rd.shI p.top (Ns.shT p.top (Ns.cntE p n f)) c.sh),iv ((Ap.af (n-f) c p.rz[r] i kp).st.getD 0 0),iv ((Ap.af (n-f) c p.rz[r] i kp).st.getD 1 0),iv ((Ap.af (n-f) c p.rz[r] i kp).st.getD 2 0),iv ((Ap.af (n-f) c p.rz[r] i kp).st.getD 3 0),iv ((Ap.af (n-f) c p.rz[r] i kp).st.getD 4 0),iv ((Ap.af (n-f) c p.rz[r] i kp).st.getD 5 0),iv ((Ap.af (n-f) c p.rz[r] i kp).st.getD 6 0),iv ((Ap.af (n-f) c p.rz[r] i kp).st.getD 7 0),iv ((Ap.af (n-f) c p.rz[r] i kp).se.getD 0 0),iv ((Ap.af (n-f) c p.rz[r] i kp).se.getD 1 0),iv ((Ap.af (n-f) c p.rz[r] i kp).se.getD 2 0),iv ((Ap.af (n-f) c p.rz[r] i kp).fa.getD 0 0),iv ((Ap.af (n-f) c p.rz[r] i kp).fa.getD 1 0),iv ((Ap.af (n-f) c p.rz[r] i kp).fa.getD 2 0),iv ((Ap.af (n-f) c p.rz[r] i kp).val)]) 9) (oA (Yw (len:=3) (off:=9) (ds:=(([(Ap.af (n-f) c p.rz[r] i kp).se.getD 0 0,(Ap.af (n-f) c p.rz[r] i kp).se.getD 1 0,(Ap.af (n-f) c p.rz[r] i kp).se.getD 2 0]).map iv)) (.tmp 21) rfl U69 (by kernel_rfl) rfl rfl (by kernel_rfl) rfl) I0 (oK (Zr (Zr (Yj ([(Ap.af (n-f) c p.rz[r] i kp).se.getD 0 0,(Ap.af (n-f) c p.rz[r] i kp).se.getD 1 0,(Ap.af (n-f) c p.rz[r] i kp).se.getD 2 0]) (by simp)) (Ap.bel3 (l:=(Ap.af (n-f) c p.rz[r] i kp).se) (by show (Ap.seA _ _ _ _ _).length≤3;rw [Ap.seA_len];omega) (by decide))) hs1) [Zb ([(Ap.af (n-f) c p.rz[r] i kp).se.getD 0 0,(Ap.af (n-f) c p.rz[r] i kp).se.getD 1 0,(Ap.af (n-f) c p.rz[r] i kp).se.getD 2 0]),iv 1048577] rfl rfl (oF bF (oS (.el ([iv (Rd.shI p.top (Ns.shT p.top (Ns.cntE p n f)) c.sh),iv ((Ap.af (n-f) c p.rz[r] i kp).st.getD 0 0),iv ((Ap.af (n-f) c p.rz[r] i kp).st.getD 1 0),iv ((Ap.af (n-f) c p.rz[r] i kp).st.getD 2 0),iv ((Ap.af (n-f) c p.rz[r] i kp).st.getD 3 0),iv ((Ap.af (n-f) c p.rz[r] i kp).st.getD 4 0),iv ((Ap.af (n-f) c p.rz[r] i kp).st.getD 5 0),iv ((Ap.af (n-f) c p.rz[r] i kp).st.getD 6 0),iv ((Ap.af (n-f) c p.rz[r] i kp).st.getD 7 0),iv ((Ap.af (n-f) c p.rz[r] i kp).se.getD 0 0),iv ((Ap.af (n-f) c p.rz[r] i kp).se.getD 1 0),iv ((Ap.af (n-f) c p.rz[r] i kp).se.getD 2 0),iv ((Ap.af (n-f) c p.rz[r] i kp).fa.getD 0 0),iv ((Ap.af (n-f) c p.rz[r] i kp).fa.getD 1 0),iv ((Ap.af (n-f) c p.rz[r] i kp).fa.getD 2 0),iv ((Ap.af (n-f) c p.rz[r] i kp).val)]) 12) (gA (Yw (len:=3) (off:=12) (ds:=(([(Ap.af (n-f) c p.rz[r] i kp).fa.getD 0 0,(Ap.af (n-f) c p.rz[r] i kp).fa.getD 1 0,(Ap.af (n-f) c p.rz[r] i kp).fa.getD 2 0]).map iv)) (.tmp 26) rfl U69 (by kernel_rfl) rfl rfl (by kernel_rfl) rfl) I0 (oK (Zr (Zr (Yj ([(Ap.af (n-f) c p.rz[r] i kp).fa.getD 0 0,(Ap.af (n-f) c p.rz[r] i kp).fa.getD 1 0,(Ap.af (n-f) c p.rz[r] i kp).fa.getD 2 0]) (by simp)) (Ap.bel3 (l:=(Ap.af (n-f) c p.rz[r] i kp).fa) (by show (Ap.faA _ _ _ _ _).length≤3;rw [Ap.faA_len];omega) (by decide))) hs2f) [Zb ([(Ap.af (n-f) c p.rz[r] i kp).fa.getD 0 0,(Ap.af (n-f) c p.rz[r] i kp).fa.getD 1 0,(Ap.af (n-f) c p.rz[r] i kp).fa.getD 2 0]),iv 1048577] rfl rfl (oW (oS bT (jG (Y6 rfl (Ki [] #[.int .i64 0,.int .i64 0,.int .i64 0,.int .i64 0,.int .i64 0,.int .i64 0,.int .i64 0,.int .i64 0,.int .i64 0,.int .i64 0,.int .i64 0,.int .i64 0,.int .i64 0,.int .i64 0,.int .i64 0,.int .i64 0] rfl rfl (by kernel_rfl) rfl) T0 T0 T0 (oY (oS (iv 4) (kN 33 Zdd (XAp3_h9 p n f c p.rz[r] i kp) (Zf (jN ?_))))))))))))))))
 refine ZQ Tryz.results23 (.cellS rfl rfl U71 rfl (z:=16) (by kernel_rfl) rfl (by decide)) (.tmp rfl) ?_
 exact rfl
 have hs1f:(Rd.belB (Ap.af (n-f) c p.rz[r] i kp).se 1048577)=false:=by simpa using hs1
 refine Za (oS (.el ([iv (Rd.shI p.top (Ns.shT p.top (Ns.cntE p n f)) c.sh),iv ((Ap.af (n-f) c p.rz[r] i kp).st.getD 0 0),iv ((Ap.af (n-f) c p.rz[r] i kp).st.getD 1 0),iv ((Ap.af (n-f) c p.rz[r] i kp).st.getD 2 0),iv ((Ap.af (n-f) c p.rz[r] i kp).st.getD 3 0),iv ((Ap.af (n-f) c p.rz[r] i kp).st.getD 4 0),iv ((Ap.af (n-f) c p.rz[r] i kp).st.getD 5 0),iv ((Ap.af (n-f) c p.rz[r] i kp).st.getD 6 0),iv ((Ap.af (n-f) c p.rz[r] i kp).st.getD 7 0),iv ((Ap.af (n-f) c p.rz[r] i kp).se.getD 0 0),iv ((Ap.af (n-f) c p.rz[r] i kp).se.getD 1 0),iv ((Ap.af (n-f) c p.rz[r] i kp).se.getD 2 0),iv ((Ap.af (n-f) c p.rz[r] i kp).fa.getD 0 0),iv ((Ap.af (n-f) c p.rz[r] i kp).fa.getD 1 0),iv ((Ap.af (n-f) c p.rz[r] i kp).fa.getD 2 0),iv ((Ap.af (n-f) c p.rz[r] i kp).val)]) 9) (oA (Yw (len:=3) (off:=9) (ds:=(([(Ap.af (n-f) c p.rz[r] i kp).se.getD 0 0,(Ap.af (n-f) c p.rz[r] i kp).se.getD 1 0,(Ap.af (n-f) c p.rz[r] i kp).se.getD 2 0]).map iv)) (.tmp 21) rfl U69 (by kernel_rfl) rfl rfl (by kernel_rfl) rfl) I0 (oK (Zr (Zr (Yj ([(Ap.af (n-f) c p.rz[r] i kp).se.getD 0 0,(Ap.af (n-f) c p.rz[r] i kp).se.getD 1 0,(Ap.af (n-f) c p.rz[r] i kp).se.getD 2 0]) (by simp)) (Ap.bel3 (l:=(Ap.af (n-f) c p.rz[r] i kp).se) (by show (Ap.seA _ _ _ _ _).length≤3;rw [Ap.seA_len];omega) (by decide))) hs1f) [Zb ([(Ap.af (n-f) c p.rz[r] i kp).se.getD 0 0,(Ap.af (n-f) c p.rz[r] i kp).se.getD 1 0,(Ap.af (n-f) c p.rz[r] i kp).se.getD 2 0]),iv 1048577] rfl rfl (oF bT (qK (qK (qK (qK (oS bT (jG (Y6 rfl (Ki [] #[.int .i64 0,.int .i64 0,.int .i64 0,.int .i64 0,.int .i64 0,.int .i64 0,.int .i64 0,.int .i64 0,.int .i64 0,.int .i64 0,.int .i64 0,.int .i64 0,.int .i64 0,.int .i64 0,.int .i64 0,.int .i64 0] rfl rfl (by kernel_rfl) rfl) T0 T0 T0 (oY (oS (iv 4) (kN 33 Zdd (XAp3_h9 p n f c p.rz[r] i kp) (Zf (jN ?_))))))))))))))))
 refine ZQ Tryz.results23 (.cellS rfl rfl U71 rfl (z:=16) (by kernel_rfl) rfl (by decide)) (.tmp rfl) ?_
 exact rfl
abbrev XAp3_h10:List (Nat × ABlk):=[(1,.box 71 [iv 0,iv 0,iv 0,iv 0,iv 0,iv 0,iv 0,iv 0,iv 0,iv 0,iv 0,iv 0,iv 0,iv 0,iv 0,iv 0])]
variable {x y:Int}
theorem apply_no (HL:FamLen p) (hc:En.CfV p n f c) (hv:valE p=0) (l8:c.st.length≤8) (hf:0≤f∧f≤1048576) (he:En.enB p n t f c (En.hdJ p f c p.msgs.length) x y kp=false):Ctr Tryz.prog J 23 [.el (En.sysP p n t f) 0,.agg (En.cfV (Rd.shI p.top (Ns.shT p.top (Ns.cntE p n f)) c.sh) c),.agg [iv x,iv y,iv kp]] (.tup [.agg Ap.z16,iv 9]):=by
 have hz:=En.val_sizes hv
 have hls:=hc.ls
 have hlf:=hc.lf
 refine Zm Tryz.func23 rfl (pN (show Plain (.el (En.sysP p n t f) 0) from .el (ZN (En.plain_sysP p n t f))) (pN (Zh (En.plain_cfV _ c)) (pN (Zh (pN (.v _) (pN (.v _) (pN (.v _) pZ)))) pZ))) (n:=33) rfl (by simp) (fun w0 => ?_)
 refine kW 33 [] [(0,.el (En.sysP p n t f) 0),(1,.agg (En.cfV (Rd.shI p.top (Ns.shT p.top (Ns.cntE p n f)) c.sh) c)),(2,.agg [iv x,iv y,iv kp])] (jB (oA (ZD (X := .agg (En.cfV (Rd.shI p.top (Ns.shT p.top (Ns.cntE p n f)) c.sh) c)) (.tmp 1) rfl rfl rfl) I0 (oA (ZD (X := .agg [iv x,iv y,iv kp]) (.tmp 2) rfl rfl rfl) I0 (oZ 1 Z71 (oS (iv 0) (jD (Zl ?_)))))))
 refine tD (dS (.el (En.sysP p n t f) 0) (dA (Zj (z:=16) (.tmp 4) rfl U71 rfl (by kernel_rfl) rfl rfl) I0 (dA (Zj (z:=3) (.tmp 5) rfl U35 rfl (by kernel_rfl) rfl rfl) I0 (dW (dA (Zj (z:=16) (.tmp 4) rfl U71 rfl (by kernel_rfl) rfl rfl) I0 (dk (ZeU hc hf hz.2.2.1) [.el (En.sysP p n t f) 0,.agg (En.cfV (Rd.shI p.top (Ns.shT p.top (Ns.cntE p n f)) c.sh) c)] rfl rfl (dR (sc #[.tmp 8,.tmp 9,.tmp 10,.tmp 13] [] (Zr (ZbS HL hc hv l8 (fun m=>En.hdJ_in hc hf _ m)) he) [.el (En.sysP p n t f) 0,.agg (En.cfV (Rd.shI p.top (Ns.shT p.top (Ns.cntE p n f)) c.sh) c),.agg ([iv x,iv y,iv kp]),.agg (En.msA (En.hdJ p f c p.msgs.length))] rfl rfl rfl) ⟨I0,I0,I0,I0,.inr (.inl rfl),T0⟩ T0 T0 (dS bT (eD ?_)))))))))
 refine kW 33 XAp3_h10 [(0,.el (En.sysP p n t f) 0),(4,.el (En.cfV (Rd.shI p.top (Ns.shT p.top (Ns.cntE p n f)) c.sh) c) 0),(5,.el ([iv x,iv y,iv kp]) 0),(6,bx 1),(7,iv 0),(15,bT)] (Zf (jK (Y6 rfl (Ki [] #[.int .i64 0,.int .i64 0,.int .i64 0,.int .i64 0,.int .i64 0,.int .i64 0,.int .i64 0,.int .i64 0,.int .i64 0,.int .i64 0,.int .i64 0,.int .i64 0,.int .i64 0,.int .i64 0,.int .i64 0,.int .i64 0] rfl rfl (by kernel_rfl) rfl) T0 T0 T0 (oY (oS (iv 9) (kN 33 XAp3_h10 [(0,.el (En.sysP p n t f) 0),(4,.el (En.cfV (Rd.shI p.top (Ns.shT p.top (Ns.cntE p n f)) c.sh) c) 0),(5,.el ([iv x,iv y,iv kp]) 0),(6,bx 1),(7,iv 9)] (Zf (jN ?_))))))))
 refine ZQ Tryz.results23 (.cellS rfl rfl U71 rfl (z:=16) (by kernel_rfl) rfl (by decide)) (.tmp rfl) ?_
 exact rfl
variable {k:Nat}
theorem applyK0 (HL:FamLen p) (HC:Rd.CgOk c) (hs:Ns.sysE p n t f=0) (hc:En.CfV p n f c) {ss:List Rp.Sp} (hk:k≤ss.length) (ok:Rp.okK p n t f c ss k) (hk1:k<ss.length) (e:(Rp.ee p n t f (Rp.cK p n f c ss k) ss[k])=0):Ctr Tryz.prog J 23 [.el (En.sysP p n t f) 0,.agg (En.cfV (Rd.shI p.top (Ns.shT p.top (Ns.cntE p n f)) c.sh) (Rp.cK p n f c ss k)),.agg (Rp.cSp ss[k])] (.tup [.agg (En.cfV (Rd.shI p.top (Ns.shT p.top (Ns.cntE p n f)) c.sh) (Rp.cK p n f c ss (k+1))),iv 0]):=by
 have h1:=Rp.cK_cf hs hc k hk ok
 have h2:=Rp.cK_ok HL hs hc HC k hk ok
 obtain ⟨hv,ha,h8⟩:=Ns.sys_ok hs
 have hai:=Ns.adm_in ha
 have l8:=En.cf_len h1 hai h8
 obtain ⟨r,i,hr,hi,e1,e2,he,hl,eq⟩:=Rp.ee_ok hs h1 e
 rw [eq] at hl
 rw [e1,e2] at he
 have h:=apply_ok (J:=J) HL h1 hv l8 ⟨by omega,by omega⟩ hr hi he (Ap.lg_and.1 hl)
 rw [Rp.cK_sh,← eq,← Rp.cK_succ hk1] at h
 show Ctr _ _ _ [_,_,.agg [iv ss[k].1,iv ss[k].2.1,iv ss[k].2.2]] _
 rw [e1,e2]
 exact h
theorem applyK1 (HL:FamLen p) (HC:Rd.CgOk c) (hs:Ns.sysE p n t f=0) (hc:En.CfV p n f c) {ss:List Rp.Sp} (hk:k≤ss.length) (ok:Rp.okK p n t f c ss k) (hk1:k<ss.length) (e:¬ (Rp.ee p n t f (Rp.cK p n f c ss k) ss[k])=0):Ctr Tryz.prog J 23 [.el (En.sysP p n t f) 0,.agg (En.cfV (Rd.shI p.top (Ns.shT p.top (Ns.cntE p n f)) c.sh) (Rp.cK p n f c ss k)),.agg (Rp.cSp ss[k])] (.tup [.agg Ap.z16,iv (Rp.ee p n t f (Rp.cK p n f c ss k) ss[k])]):=by
 have h1:=Rp.cK_cf hs hc k hk ok
 have h2:=Rp.cK_ok HL hs hc HC k hk ok
 obtain ⟨hv,ha,h8⟩:=Ns.sys_ok hs
 have hai:=Ns.adm_in ha
 have l8:=En.cf_len h1 hai h8
 have hz:=Rp.vc_of hs h1
 show Ctr _ _ _ [_,_,.agg [iv ss[k].1,iv ss[k].2.1,iv ss[k].2.2]] _
 cases he:En.enB p n t f (Rp.cK p n f c ss k) (En.hdJ p f (Rp.cK p n f c ss k) p.msgs.length) ss[k].1 ss[k].2.1 ss[k].2.2 with
 | false =>
   have h:=apply_no (J:=J) HL h1 hv l8 ⟨by omega,by omega⟩ he
   rw [Rp.cK_sh] at h
   rw [show (Rp.ee p n t f (Rp.cK p n f c ss k) ss[k])=9 from Ap.apE_no hz he]
   exact h
 | true =>
   obtain ⟨r,i,hr,hi,e1,e2⟩:=Ap.en_at he
   have he2:=he
   rw [e1,e2] at he2
   have e9:(Rp.ee p n t f (Rp.cK p n f c ss k) ss[k])=Ap.apE p n t f (Rp.cK p n f c ss k) (r:Int) (i:Int) ss[k].2.2:=by unfold Rp.ee;rw [e1,e2]
   by_cases hl:Rd.belB (Ap.af (n-f) (Rp.cK p n f c ss k) p.rz[r] i ss[k].2.2).se 1048577=true∧Rd.belB (Ap.af (n-f) (Rp.cK p n f c ss k) p.rz[r] i ss[k].2.2).fa 1048577=true
   ·exact absurd (e9.trans (Ap.apE_ok hz he2 hr hl)) e
   have h:=apply_lg (J:=J) HL h1 hv l8 ⟨by omega,by omega⟩ hr hi he2 hl
   rw [Rp.cK_sh] at h
   rw [e9,Ap.apE_lg hz he2 hr hl,e1,e2]
   exact h
theorem writeK (HL:FamLen p) (HC:Rd.CgOk c) (hs:Ns.sysE p n t f=0) (hc:En.CfV p n f c) {ss:List Rp.Sp} (hk:k≤ss.length) (ok:Rp.okK p n t f c ss k):Ctr Tryz.prog J 24 [.el (En.sysP p n t f) 0,.agg (En.cfV (Rd.shI p.top (Ns.shT p.top (Ns.cntE p n f)) c.sh) (Rp.cK p n f c ss k))] (.agg (Rd.cCg (Rp.cK p n f c ss k))):=by
 have h1:=Rp.cK_cf hs hc k hk ok
 have h2:=Rp.cK_ok HL hs hc HC k hk ok
 obtain ⟨hv,ha,h8⟩:=Ns.sys_ok hs
 have hai:=Ns.adm_in ha
 have l8:=En.cf_len h1 hai h8
 have hz:=En.val_sizes hv
 refine write_c h2 h1.ln.symm l8 hz.2.2.1 h1.ls h1.lf h1.co ?_ ?_
 ·have h4:=Ap.shI_T h1 hv
  rw [Rp.cK_sh] at h4 ⊢
  exact h4
 have h4:=Ap.sh_no h1
 rw [Rp.cK_sh] at h4 ⊢
 exact h4
end Go.Proofs.YtdbehgbggaaipaaGreat
