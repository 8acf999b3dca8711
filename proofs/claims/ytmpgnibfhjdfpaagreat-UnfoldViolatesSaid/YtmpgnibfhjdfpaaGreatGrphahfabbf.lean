import Derived.Deep.QuietTactic
import Derived.BigQuiet
import Derived.Test.YtmpgnibfhjdfpaaGreatGrpcdiljnim
import Derived.Test.YtmpgnibfhjdfpaaGreatGrpnbibgnod
set_option linter.all false
namespace Go.Proofs.YtmpgnibfhjdfpaaGreat
open Go.RowKit Go.Deep Tryz
set_option maxHeartbeats 12800000
variable {xs:List Th}{g:Th}{k:Nat}
theorem mem_succ (h:k<xs.length) (hk:g ∉ xs.take k) (e:g≠xs[k]):g ∉ xs.take (k+1):=by
 rw [List.take_succ_eq_append_getElem h,List.mem_append];simp only [List.mem_singleton,not_or];exact ⟨hk,e⟩
theorem mem_yes (h:k<xs.length) (e:g=xs[k]):decide (g∈xs)=true:=by
 rw [decide_eq_true_iff,e];exact List.getElem_mem h
theorem mem_end (h:k=xs.length) (hk:g ∉ xs.take k):decide (g∈xs)=false:=by
 rw [List.take_of_length_le (by omega)] at hk;exact decide_eq_false hk
variable {lo:Nat}{w:World}
theorem th_cells {b off n cap:Nat} (h:IsSl 6 ThEl lo w (.slice (some ⟨b,off,none⟩) n cap) xs) (k:Nat) (hk:k<xs.length):w.cell? ⟨b,off+k*6,none⟩=some (.int .i64 xs[k].msg)/\w.cell? ⟨b,off+k*6+1,none⟩=some (.int .i64 xs[k].coef)/\w.cell? ⟨b,off+k*6+2,none⟩=some (.int .i64 xs[k].bd.c)/\w.cell? ⟨b,off+k*6+3,none⟩=some (.int .i64 xs[k].bd.n)/\w.cell? ⟨b,off+k*6+4,none⟩=some (.int .i64 xs[k].bd.t)/\w.cell? ⟨b,off+k*6+5,none⟩=some (.int .i64 xs[k].bd.f):=by
 obtain ⟨b',off',cs,ha,_,_,_,hc,hel⟩:=h.at k hk
 cases ha
 have h0:=hc 0 (by omega)
 have h1:=hc 1 (by omega)
 have h2:=hc 2 (by omega)
 have h3:=hc 3 (by omega)
 have h4:=hc 4 (by omega)
 have h5:=hc 5 (by omega)
 rw [hel.1] at h0 h1 h2 h3 h4 h5
 exact ⟨h0.trans rfl,h1.trans rfl,h2.trans rfl,h3.trans rfl,h4.trans rfl,h5.trans rfl⟩
variable {v:Value}
theorem ZfJ (x1 x2 x3 x4 x5 x6:Int) (h:IsSl 6 ThEl lo w v xs) :
 Calls Tryz.prog 138 #[v,.agg #[.int .i64 x1,.int .i64 x2,.int .i64 x3,.int .i64 x4,.int .i64 x5,.int .i64 x6]] w λe w'=>∃ i:Int,e = .returned (.int .i64 i)/\(decide (0<=i))=decide ((⟨x1,x2,⟨x3,x4,x5,x6⟩⟩:Th)∈xs)/\Below w.heap.size w w':=by
 have hn:=h.bound
 have H:=Lib.hid h
 rcases Wo h with ⟨rfl,a,c,rfl⟩ | ⟨b,off,c,rfl,hbw,_⟩
 ·clear h
  go_enter func138,ntmps138
  go_wp2_with fail
  refine wp_loop_rounds 1 ?_
  rw [rounds_succ]
  go_wp2_with fail
  go_ret
  exact ⟨-1,rfl,by simp,Zm _ _⟩
 generalize hN:xs.length=n at hn
 have HN:=Lib.hid hN
 rw [hN] at H
 clear h hN
 go_enter func138,ntmps138
 go_wp2_with fail
 obtain ⟨W,hW⟩:∃ W:World,W=w.alloc (.cells #[.int .i64 x1,.int .i64 x2,.int .i64 x3,.int .i64 x4,.int .i64 x5,.int .i64 x6] 118):=⟨_,rfl⟩
 rw [<- hW]
 have HW:=Lib.hid (show Below w.heap.size w W by rw [hW];exact Zm _ _)
 have hs:w.heap.size<W.heap.size:=by rw [hW];simp
 have y0:W.cell? ⟨w.heap.size,0,none⟩=some (.int .i64 x1):=by rw [hW];exact (Yk _ _ _ 0 rfl).trans rfl
 have y1:W.cell? ⟨w.heap.size,1,none⟩=some (.int .i64 x2):=by rw [hW];exact (Yk _ _ _ 1 rfl).trans rfl
 have y2:W.cell? ⟨w.heap.size,2,none⟩=some (.int .i64 x3):=by rw [hW];exact (Yk _ _ _ 2 rfl).trans rfl
 have y3:W.cell? ⟨w.heap.size,3,none⟩=some (.int .i64 x4):=by rw [hW];exact (Yk _ _ _ 3 rfl).trans rfl
 have y4:W.cell? ⟨w.heap.size,4,none⟩=some (.int .i64 x5):=by rw [hW];exact (Yk _ _ _ 4 rfl).trans rfl
 have y5:W.cell? ⟨w.heap.size,5,none⟩=some (.int .i64 x6):=by rw [hW];exact (Yk _ _ _ 5 rfl).trans rfl
 clear hW
 go_loopw [8] (λu wr=>∃ k:Nat,k<=n/\u = .int .i64 k/\(⟨x1,x2,⟨x3,x4,x5,x6⟩⟩:Th) ∉ xs.take k/\Below W.heap.size W wr) (λu _=>n-(intOf u).toNat)
 case atStart=>exact ⟨0,Nat.zero_le _,rfl,by simp,Below.refl _ _⟩
 case round =>
  obtain ⟨k,hk,rfl,hs',hB⟩:=hrel
  have HS:=Lib.hid hs'
  have HB:=Lib.hid hB
  have HBW:=Lib.hid (Zq HW.out hB)
  clear hs' hB
  by_cases h1:k<n
  ·have hkx:k<xs.length:=by rw [HN.out];exact h1
   obtain ⟨g0,g1,g2,g3,g4,g5⟩:=th_cells H.out k hkx
   have k0:=(HBW.out.cell (p:=⟨b,off+k*6,none⟩) hbw).trans g0
   have z0:=(HB.out.cell (p:=⟨w.heap.size,0,none⟩) hs).trans y0
   have k1:=(HBW.out.cell (p:=⟨b,off+k*6+1,none⟩) hbw).trans g1
   have z1:=(HB.out.cell (p:=⟨w.heap.size,1,none⟩) hs).trans y1
   have k2:=(HBW.out.cell (p:=⟨b,off+k*6+2,none⟩) hbw).trans g2
   have z2:=(HB.out.cell (p:=⟨w.heap.size,2,none⟩) hs).trans y2
   have k3:=(HBW.out.cell (p:=⟨b,off+k*6+3,none⟩) hbw).trans g3
   have z3:=(HB.out.cell (p:=⟨w.heap.size,3,none⟩) hs).trans y3
   have k4:=(HBW.out.cell (p:=⟨b,off+k*6+4,none⟩) hbw).trans g4
   have z4:=(HB.out.cell (p:=⟨w.heap.size,4,none⟩) hs).trans y4
   have k5:=(HBW.out.cell (p:=⟨b,off+k*6+5,none⟩) hbw).trans g5
   have z5:=(HB.out.cell (p:=⟨w.heap.size,5,none⟩) hs).trans y5
   have HYES:=Lib.hid (λh=>mem_yes (g:=(⟨x1,x2,⟨x3,x4,x5,x6⟩⟩:Th)) hkx h)
   have HNO:=Lib.hid (λh=>mem_succ hkx HS.out h)
   generalize xs[k]=x at k0 k1 k2 k3 k4 k5 HYES HNO
   obtain ⟨y1,y2,⟨y3,y4,y5,y6⟩⟩:=x
   dsimp only at k0 k1 k2 k3 k4 k5
   clear g0 g1 g2 g3 g4 g5
   by_cases e0:x1=y1
   ·subst e0
    by_cases e1:x2=y2
    ·subst e1
     by_cases e2:x3=y3
     ·subst e2
      by_cases e3:x4=y4
      ·subst e3
       by_cases e4:x5=y5
       ·subst e4
        by_cases e5:x6=y6
        ·subst e5
         go_wp2_with fail
         go_quiet (fail)
         go_wp2_with fail
         go_ret
         exact ⟨k,rfl,by rw [HYES.out (by first | trivial | rfl)];simp,below_drewN HBW.out _⟩
        have e5':(x6==y6)=false:=by simp [e5]
        have HE:=Lib.hid (show (⟨x1,x2,⟨x3,x4,x5,x6⟩⟩:Th)≠⟨x1,x2,⟨x3,x4,x5,y6⟩⟩ by intro h;simp only [Th.mk.injEq,Ln.mk.injEq] at h;simp_all)
        clear e5
        go_wp2_with fail
        go_quiet (fail)
        go_wp2_with fail
        go_roundw
        case rel=>exact ⟨k+1,by omega,by go_num,HNO.out HE.out,below_drewN HB.out _⟩
        case measure=>simp [intOf];omega
       have e4':(x5==y5)=false:=by simp [e4]
       have HE:=Lib.hid (show (⟨x1,x2,⟨x3,x4,x5,x6⟩⟩:Th)≠⟨x1,x2,⟨x3,x4,y5,y6⟩⟩ by intro h;simp only [Th.mk.injEq,Ln.mk.injEq] at h;simp_all)
       clear e4
       go_wp2_with fail
       go_quiet (fail)
       go_wp2_with fail
       go_roundw
       case rel=>exact ⟨k+1,by omega,by go_num,HNO.out HE.out,below_drewN HB.out _⟩
       case measure=>simp [intOf];omega
      have e3':(x4==y4)=false:=by simp [e3]
      have HE:=Lib.hid (show (⟨x1,x2,⟨x3,x4,x5,x6⟩⟩:Th)≠⟨x1,x2,⟨x3,y4,y5,y6⟩⟩ by intro h;simp only [Th.mk.injEq,Ln.mk.injEq] at h;simp_all)
      clear e3
      go_wp2_with fail
      go_quiet (fail)
      go_wp2_with fail
      go_roundw
      case rel=>exact ⟨k+1,by omega,by go_num,HNO.out HE.out,below_drewN HB.out _⟩
      case measure=>simp [intOf];omega
     have e2':(x3==y3)=false:=by simp [e2]
     have HE:=Lib.hid (show (⟨x1,x2,⟨x3,x4,x5,x6⟩⟩:Th)≠⟨x1,x2,⟨y3,y4,y5,y6⟩⟩ by intro h;simp only [Th.mk.injEq,Ln.mk.injEq] at h;simp_all)
     clear e2
     go_wp2_with fail
     go_quiet (fail)
     go_wp2_with fail
     go_roundw
     case rel=>exact ⟨k+1,by omega,by go_num,HNO.out HE.out,below_drewN HB.out _⟩
     case measure=>simp [intOf];omega
    have e1':(x2==y2)=false:=by simp [e1]
    have HE:=Lib.hid (show (⟨x1,x2,⟨x3,x4,x5,x6⟩⟩:Th)≠⟨x1,y2,⟨y3,y4,y5,y6⟩⟩ by intro h;simp only [Th.mk.injEq,Ln.mk.injEq] at h;simp_all)
    clear e1
    go_wp2_with fail
    go_quiet (fail)
    go_wp2_with fail
    go_roundw
    case rel=>exact ⟨k+1,by omega,by go_num,HNO.out HE.out,below_drewN HB.out _⟩
    case measure=>simp [intOf];omega
   have e0':(x1==y1)=false:=by simp [e0]
   have HE:=Lib.hid (show (⟨x1,x2,⟨x3,x4,x5,x6⟩⟩:Th)≠⟨y1,y2,⟨y3,y4,y5,y6⟩⟩ by intro h;simp only [Th.mk.injEq,Ln.mk.injEq] at h;simp_all)
   clear e0
   go_wp2_with fail
   go_quiet (fail)
   go_wp2_with fail
   go_roundw
   case rel=>exact ⟨k+1,by omega,by go_num,HNO.out HE.out,below_drewN HB.out _⟩
   case measure=>simp [intOf];omega
  have HE:=Lib.hid (mem_end (by rw [HN.out];omega) HS.out)
  go_wp2_with fail
  go_ret
  exact ⟨-1,rfl,by rw [HE.out];rfl,HBW.out⟩
theorem Zad (x1 x2 x3 x4 x5 x6:Int) (h:IsSl 6 ThEl lo w v xs) :
 Calls Tryz.prog 124 #[v,.agg #[.int .i64 x1,.int .i64 x2,.int .i64 x3,.int .i64 x4,.int .i64 x5,.int .i64 x6]] w λe w'=>e = .returned (.bool (decide ((⟨x1,x2,⟨x3,x4,x5,x6⟩⟩:Th)∈xs)))/\Below w.heap.size w w':=by
 have H:=Lib.hid h
 clear h
 go_enter func124,ntmps124
 go_wp2_with (go_at_call 138;(with_reducible refine (ZfJ x1 x2 x3 x4 x5 x6 (H.out.below ThEl.stays (Zm _ _))).mono ?_);rintro e w1 ⟨i,rfl,hi,hb⟩;have HI:=Lib.hid hi;have HB:=Lib.hid hb;clear hi hb)
 go_ret
 exact ⟨Zt HI.out,Zq (Zm _ _) HB.out⟩
end Go.Proofs.YtmpgnibfhjdfpaaGreat
