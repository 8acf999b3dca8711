import Derived.Test.YtmpgnibfhjdfpaaGreatGrphahfabbf
import Derived.Test.YtmpgnibfhjdfpaaGreatGrpmfnhefjj
set_option linter.all false
namespace Go.Proofs.YtmpgnibfhjdfpaaGreat
open Go.RowKit Go.Deep Tryz
set_option maxHeartbeats 12800000
theorem ZcV (x1 x2 x3 x4 x5 x6 y1 y2 y3 y4 y5 y6:Int) (w:World) :
 Calls Tryz.prog 139 #[.agg #[.int .i64 x1,.int .i64 x2,.int .i64 x3,.int .i64 x4,.int .i64 x5,.int .i64 x6],.agg #[.int .i64 y1,.int .i64 y2,.int .i64 y3,.int .i64 y4,.int .i64 y5,.int .i64 y6]] w λe w'=>e = .returned (.bool (decide ((⟨x1,x2,⟨x3,x4,x5,x6⟩⟩:Th)=⟨y1,y2,⟨y3,y4,y5,y6⟩⟩)))/\Below w.heap.size w w':=by
 by_cases e0:x1=y1
 ·subst e0
  by_cases e1:x2=y2
  ·subst e1
   by_cases e2:x3=y3
   ·subst e2
    by_cases e3:x4=y4
    ·subst e3
     by_cases e4:x5=y5
     ·subst e4
      by_cases e5:x6=y6
      ·subst e5
       go_enter func139,ntmps139
       go_wp2_with fail
       go_ret
       exact ⟨Zt (by simp),Zq (Zm _ _) (Zm _ _)⟩
      have e5':(x6==y6)=false:=by simp [e5]
      have HE:=Lib.hid (show decide ((⟨x1,x2,⟨x3,x4,x5,x6⟩⟩:Th)=⟨x1,x2,⟨x3,x4,x5,y6⟩⟩)=false by rw [decide_eq_false_iff_not];intro h;simp only [Th.mk.injEq,Ln.mk.injEq] at h;simp_all)
      clear e5
      go_enter func139,ntmps139
      go_wp2_with fail
      go_ret
      exact ⟨Zt HE.out.symm,Zq (Zm _ _) (Zm _ _)⟩
     have e4':(x5==y5)=false:=by simp [e4]
     have HE:=Lib.hid (show decide ((⟨x1,x2,⟨x3,x4,x5,x6⟩⟩:Th)=⟨x1,x2,⟨x3,x4,y5,y6⟩⟩)=false by rw [decide_eq_false_iff_not];intro h;simp only [Th.mk.injEq,Ln.mk.injEq] at h;simp_all)
     clear e4
     go_enter func139,ntmps139
     go_wp2_with fail
     go_ret
     exact ⟨Zt HE.out.symm,Zq (Zm _ _) (Zm _ _)⟩
    have e3':(x4==y4)=false:=by simp [e3]
    have HE:=Lib.hid (show decide ((⟨x1,x2,⟨x3,x4,x5,x6⟩⟩:Th)=⟨x1,x2,⟨x3,y4,y5,y6⟩⟩)=false by rw [decide_eq_false_iff_not];intro h;simp only [Th.mk.injEq,Ln.mk.injEq] at h;simp_all)
    clear e3
    go_enter func139,ntmps139
    go_wp2_with fail
    go_ret
    exact ⟨Zt HE.out.symm,Zq (Zm _ _) (Zm _ _)⟩
   have e2':(x3==y3)=false:=by simp [e2]
   have HE:=Lib.hid (show decide ((⟨x1,x2,⟨x3,x4,x5,x6⟩⟩:Th)=⟨x1,x2,⟨y3,y4,y5,y6⟩⟩)=false by rw [decide_eq_false_iff_not];intro h;simp only [Th.mk.injEq,Ln.mk.injEq] at h;simp_all)
   clear e2
   go_enter func139,ntmps139
   go_wp2_with fail
   go_ret
   exact ⟨Zt HE.out.symm,Zq (Zm _ _) (Zm _ _)⟩
  have e1':(x2==y2)=false:=by simp [e1]
  have HE:=Lib.hid (show decide ((⟨x1,x2,⟨x3,x4,x5,x6⟩⟩:Th)=⟨x1,y2,⟨y3,y4,y5,y6⟩⟩)=false by rw [decide_eq_false_iff_not];intro h;simp only [Th.mk.injEq,Ln.mk.injEq] at h;simp_all)
  clear e1
  go_enter func139,ntmps139
  go_wp2_with fail
  go_ret
  exact ⟨Zt HE.out.symm,Zq (Zm _ _) (Zm _ _)⟩
 have e0':(x1==y1)=false:=by simp [e0]
 have HE:=Lib.hid (show decide ((⟨x1,x2,⟨x3,x4,x5,x6⟩⟩:Th)=⟨y1,y2,⟨y3,y4,y5,y6⟩⟩)=false by rw [decide_eq_false_iff_not];intro h;simp only [Th.mk.injEq,Ln.mk.injEq] at h;simp_all)
 clear e0
 go_enter func139,ntmps139
 go_wp2_with fail
 go_ret
 exact ⟨Zt HE.out.symm,Zq (Zm _ _) (Zm _ _)⟩
theorem Zcb {lo:Nat} {w:World} {v:Value} {xs:List Th} (x1 x2 x3 x4 x5 x6:Int) (h:IsSl 6 ThEl lo w v xs) :
 Calls Tryz.prog 126 #[v,.agg #[.int .i64 x1,.int .i64 x2,.int .i64 x3,.int .i64 x4,.int .i64 x5,.int .i64 x6]] w λe w'=>∃ i:Int,e = .returned (.int .i64 i)/\(decide (0<=i))=decide ((⟨x1,x2,⟨x3,x4,x5,x6⟩⟩:Th)∈xs)/\Below w.heap.size w w':=by
 have hn:=h.bound
 have H:=Lib.hid h
 rcases Wo h with ⟨rfl,a,c,rfl⟩ | ⟨b,off,c,rfl,hbw,_⟩
 ·clear h
  go_enter func126,ntmps126
  go_wp2_with fail
  refine wp_loop_rounds 1 ?_
  rw [rounds_succ]
  go_wp2_with fail
  go_ret
  exact ⟨-1,rfl,by simp,Zm _ _⟩
 generalize hN:xs.length=n at hn
 have HN:=Lib.hid hN
 rw [hN] at H
 clear h hN
 go_enter func126,ntmps126
 go_wp2_with fail
 obtain ⟨W,hW⟩:∃ W:World,W=w.alloc (.cells #[.int .i64 x1,.int .i64 x2,.int .i64 x3,.int .i64 x4,.int .i64 x5,.int .i64 x6] 118):=⟨_,rfl⟩
 rw [<- hW]
 have HW:=Lib.hid (show Below w.heap.size w W by rw [hW];exact Zm _ _)
 have hs:w.heap.size<W.heap.size:=by rw [hW];simp
 have y0:W.cell? ⟨w.heap.size,0,none⟩=some (.int .i64 x1):=by rw [hW];exact (Yk _ _ _ 0 rfl).trans rfl
 have y1:W.cell? ⟨w.heap.size,1,none⟩=some (.int .i64 x2):=by rw [hW];exact (Yk _ _ _ 1 rfl).trans rfl
 have y2:W.cell? ⟨w.heap.size,2,none⟩=some (.int .i64 x3):=by rw [hW];exact (Yk _ _ _ 2 rfl).trans rfl
 have y3:W.cell? ⟨w.heap.size,3,none⟩=some (.int .i64 x4):=by rw [hW];exact (Yk _ _ _ 3 rfl).trans rfl
 have y4:W.cell? ⟨w.heap.size,4,none⟩=some (.int .i64 x5):=by rw [hW];exact (Yk _ _ _ 4 rfl).trans rfl
 have y5:W.cell? ⟨w.heap.size,5,none⟩=some (.int .i64 x6):=by rw [hW];exact (Yk _ _ _ 5 rfl).trans rfl
 clear hW
 go_loopw [5] (λu wr=>∃ k:Nat,k<=n/\u = .int .i64 k/\(⟨x1,x2,⟨x3,x4,x5,x6⟩⟩:Th) ∉ xs.take k/\Below W.heap.size W wr) (λu _=>n-(intOf u).toNat)
 case atStart=>exact ⟨0,Nat.zero_le _,rfl,by simp,Below.refl _ _⟩
 case round =>
  obtain ⟨k,hk,rfl,hs',hB⟩:=hrel
  obtain ⟨R,hR⟩:∃ R:World,R=wr:=⟨_,rfl⟩
  rw [<- hR] at hB ⊢
  clear hR
  have HS:=Lib.hid hs'
  have HB:=Lib.hid hB
  have HBW:=Lib.hid (Zq HW.out hB)
  clear hs' hB
  by_cases h1:k<n
  ·have hkx:k<xs.length:=by rw [HN.out];exact h1
   obtain ⟨g0,g1,g2,g3,g4,g5⟩:=th_cells H.out k hkx
   have k0:=(HBW.out.cell (p:=⟨b,off+k*6,none⟩) hbw).trans g0
   have z0:=(HB.out.cell (p:=⟨w.heap.size,0,none⟩) hs).trans y0
   have k1:=(HBW.out.cell (p:=⟨b,off+k*6+1,none⟩) hbw).trans g1
   have z1:=(HB.out.cell (p:=⟨w.heap.size,1,none⟩) hs).trans y1
   have k2:=(HBW.out.cell (p:=⟨b,off+k*6+2,none⟩) hbw).trans g2
   have z2:=(HB.out.cell (p:=⟨w.heap.size,2,none⟩) hs).trans y2
   have k3:=(HBW.out.cell (p:=⟨b,off+k*6+3,none⟩) hbw).trans g3
   have z3:=(HB.out.cell (p:=⟨w.heap.size,3,none⟩) hs).trans y3
   have k4:=(HBW.out.cell (p:=⟨b,off+k*6+4,none⟩) hbw).trans g4
   have z4:=(HB.out.cell (p:=⟨w.heap.size,4,none⟩) hs).trans y4
   have k5:=(HBW.out.cell (p:=⟨b,off+k*6+5,none⟩) hbw).trans g5
   have z5:=(HB.out.cell (p:=⟨w.heap.size,5,none⟩) hs).trans y5
   have HYES:=Lib.hid (λh=>mem_yes (g:=(⟨x1,x2,⟨x3,x4,x5,x6⟩⟩:Th)) hkx h)
   have HNO:=Lib.hid (λh=>mem_succ hkx HS.out h)
   generalize xs[k]=x at k0 k1 k2 k3 k4 k5 HYES HNO
   obtain ⟨y1,y2,⟨y3,y4,y5,y6⟩⟩:=x
   dsimp only at k0 k1 k2 k3 k4 k5
   clear g0 g1 g2 g3 g4 g5
   have m0:∀ n:WIn (Below R.heap.size R),n.val.cell? ⟨b,off+k*6,none⟩=some (.int .i64 y1):=λn=>keep1 k0 n.ok
   have l0:∀ n:WIn (Below R.heap.size R),n.val.cell? ⟨w.heap.size,0,none⟩=some (.int .i64 x1):=λn=>keep1 z0 n.ok
   have m1:∀ n:WIn (Below R.heap.size R),n.val.cell? ⟨b,off+k*6+1,none⟩=some (.int .i64 y2):=λn=>keep1 k1 n.ok
   have l1:∀ n:WIn (Below R.heap.size R),n.val.cell? ⟨w.heap.size,1,none⟩=some (.int .i64 x2):=λn=>keep1 z1 n.ok
   have m2:∀ n:WIn (Below R.heap.size R),n.val.cell? ⟨b,off+k*6+2,none⟩=some (.int .i64 y3):=λn=>keep1 k2 n.ok
   have l2:∀ n:WIn (Below R.heap.size R),n.val.cell? ⟨w.heap.size,2,none⟩=some (.int .i64 x3):=λn=>keep1 z2 n.ok
   have m3:∀ n:WIn (Below R.heap.size R),n.val.cell? ⟨b,off+k*6+3,none⟩=some (.int .i64 y4):=λn=>keep1 k3 n.ok
   have l3:∀ n:WIn (Below R.heap.size R),n.val.cell? ⟨w.heap.size,3,none⟩=some (.int .i64 x4):=λn=>keep1 z3 n.ok
   have m4:∀ n:WIn (Below R.heap.size R),n.val.cell? ⟨b,off+k*6+4,none⟩=some (.int .i64 y5):=λn=>keep1 k4 n.ok
   have l4:∀ n:WIn (Below R.heap.size R),n.val.cell? ⟨w.heap.size,4,none⟩=some (.int .i64 x5):=λn=>keep1 z4 n.ok
   have m5:∀ n:WIn (Below R.heap.size R),n.val.cell? ⟨b,off+k*6+5,none⟩=some (.int .i64 y6):=λn=>keep1 k5 n.ok
   have l5:∀ n:WIn (Below R.heap.size R),n.val.cell? ⟨w.heap.size,5,none⟩=some (.int .i64 x6):=λn=>keep1 z5 n.ok
   by_cases he:(⟨y1,y2,⟨y3,y4,y5,y6⟩⟩:Th)=⟨x1,x2,⟨x3,x4,x5,x6⟩⟩
   ·have HE:=Lib.hid he
    clear he
    go_upto_region 4 with (fail)
    refine wp_cls (by kernel_rfl) (by kernel_rfl) ?_
    iterate 5 go_big_quiet_step (fail)
    go_big_quiet_step (((with_reducible refine (ZcV _ _ _ _ _ _ _ _ _ _ _ _ _).mono ?_);rw [decide_eq_true HE.out];rintro e w1 ⟨rfl,hb⟩;exact ⟨rfl,⟨w1,Zq (WIn.ok _) hb⟩,rfl⟩))
    refine wpQuiet_nil ?_
    intro N
    have NB:=Lib.hid (Zq HB.out N.ok)
    have NW:=Lib.hid (Zq HBW.out N.ok)
    go_wp2_with fail
    go_ret
    exact ⟨k,rfl,by rw [HYES.out HE.out.symm];simp,NW.out⟩
   have HE:=Lib.hid he
   clear he
   go_upto_region 4 with (fail)
   refine wp_cls (by kernel_rfl) (by kernel_rfl) ?_
   iterate 5 go_big_quiet_step (fail)
   go_big_quiet_step (((with_reducible refine (ZcV _ _ _ _ _ _ _ _ _ _ _ _ _).mono ?_);rw [decide_eq_false HE.out];rintro e w1 ⟨rfl,hb⟩;exact ⟨rfl,⟨w1,Zq (WIn.ok _) hb⟩,rfl⟩))
   refine wpQuiet_nil ?_
   intro N
   have NB:=Lib.hid (Zq HB.out N.ok)
   have NW:=Lib.hid (Zq HBW.out N.ok)
   go_wp2_with fail
   go_roundw
   case rel=>exact ⟨k+1,by omega,by go_num,HNO.out (λh=>HE.out h.symm),NB.out⟩
   case measure=>simp [intOf];omega
  have HE:=Lib.hid (mem_end (by rw [HN.out];omega) HS.out)
  go_wp2_with fail
  go_ret
  exact ⟨-1,rfl,by rw [HE.out];rfl,HBW.out⟩
end Go.Proofs.YtmpgnibfhjdfpaaGreat
