import Derived.Test.YtdbehgbggaaipaaGreatGrphgdbcgpm
import Derived.Test.YtdbehgbggaaipaaGreatGrpkdeckmpc
set_option linter.all false
namespace Go.Proofs.YtdbehgbggaaipaaGreat
open Go.RowKit Go.Deep
set_option maxHeartbeats 12800000
def resvB (q:Fm) (n t f:Int):Bool:=q.res.all fun l=>decide (0≤linV l.c l.n l.t l.f n t f)
def admB (q:Fm) (n t f:Int):Bool :=
 inB 1 1048576 n&&inB 0 n t&&inB 0 n f && !(decide (q.fzz=0) && !(decide (t=0)&&decide (f=0))) && !(decide (q.top=4)&&decide (n.tmod 2=0))&&resvB q n t f
theorem ZC {n lo hi:Int} {b:Bool} (h:inB lo hi n=b) (w:World):Calls Tryz.prog 71 #[.int .i64 n,.int .i64 lo,.int .i64 hi] w fun e w'=>e = .returned (.bool b)∧w=w':=by
 rw [← h];exact Z0 _ _ _ _
variable {k:Nat}
theorem ZaL {α:Type} {p:α→Bool} {xs:List α} (h:k<xs.length) (hk:(xs.take k).all p=true) (e:p xs[k]=true):(xs.take (k+1)).all p=true:=by
 rw [List.take_succ_eq_append_getElem h,List.all_append,hk];simpa using e
theorem Zet {α:Type} {p:α→Bool} {xs:List α} (h:k<xs.length) (e:p xs[k]=false):xs.all p=false:=by
 rw [List.all_eq_false];exact ⟨xs[k],List.getElem_mem h,by simpa using e⟩
def lnC (l:Ln):List Value:=[.int .i64 l.c,.int .i64 l.n,.int .i64 l.t,.int .i64 l.f]
theorem KW:(Tryz.prog.info? 109).map (·.size)=some 4:=by kernel_rfl
theorem admits_any {lo:Nat} {w:World} {v:Value} {q:Fm} (n t f:Int) (hq:IsFam lo w v q) :
 Calls Tryz.prog 82 #[v,.agg #[.int .i64 n,.int .i64 t,.int .i64 f]] w fun e w'=>e = .returned (.bool (admB q n t f))∧Below w.heap.size w w':=by
 obtain ⟨v2,v3,v4,v6,v7,v8,v9,rfl,hnm,_,h2,h3,h4,_,h6,h7,h8,h9⟩:=hq
 obtain ⟨a2,c2,rfl⟩:=h2.shape
 obtain ⟨a3,c3,rfl⟩:=h3.shape
 obtain ⟨a4,c4,rfl⟩:=h4.shape
 obtain ⟨a6,c6,rfl⟩:=h6.shape
 obtain ⟨a7,c7,rfl⟩:=h7.shape
 obtain ⟨a8,c8,rfl⟩:=h8.shape
 obtain ⟨a9,c9,rfl⟩:=h9.shape
 have H6:=Lib.hid h6
 have hb6:=h6.bound
 have E:Hid (admB q n t f=(inB 1 1048576 n&&inB 0 n t&&inB 0 n f && !(decide (q.fzz=0) && !(decide (t=0)&&decide (f=0))) && !(decide (q.top=4)&&decide (n.tmod 2=0))&&resvB q n t f)):=(rfl:admB q n t f=_)
 clear hnm h2 h3 h4 h6 h7 h8 h9
 go_enter Tryz.func82,Tryz.ntmps82
 go_upto_region 1 with (fail)
 obtain ⟨W,hW⟩:∃ W:World,W=(w.alloc (.cells #[.string q.nm,.int .i64 q.top,.slice a2 q.sz.length c2,.slice a3 q.msgs.length c3,.slice a4 q.vals.length c4,.int .i64 q.fzz,.slice a6 q.res.length c6,.slice a7 q.init.length c7,.slice a8 q.lz.length c8,.slice a9 q.rz.length c9] 27)).alloc (.cells #[.int .i64 n,.int .i64 t,.int .i64 f] 29):=⟨_,rfl⟩
 rw [← hW]
 have WB:=Lib.hid (show Below w.heap.size w W by rw [hW];go_grown)
 have WP:=Lib.hid (show W.heap[w.heap.size]? = some (.cells #[.string q.nm,.int .i64 q.top,.slice a2 q.sz.length c2,.slice a3 q.msgs.length c3,.slice a4 q.vals.length c4,.int .i64 q.fzz,.slice a6 q.res.length c6,.slice a7 q.init.length c7,.slice a8 q.lz.length c8,.slice a9 q.rz.length c9] 27 (0,0)) by rw [hW];exact (ZaI _ _ (by simp)).trans (ZY _ _ rfl))
 have WS:=Lib.hid (show W.heap[w.heap.size+1]? = some (.cells #[.int .i64 n,.int .i64 t,.int .i64 f] 29 (0,0)) by rw [hW];exact ZY _ _ (by simp))
 clear hW
 have x1:W.cell? ⟨w.heap.size,1,none⟩=some (.int .i64 q.top):=ZH WP.out 1 rfl
 have x5:W.cell? ⟨w.heap.size,5,none⟩=some (.int .i64 q.fzz):=ZH WP.out 5 rfl
 have x6:W.cell? ⟨w.heap.size,6,none⟩=some (.slice a6 q.res.length c6):=ZH WP.out 6 rfl
 have s0:W.cell? ⟨w.heap.size+1,0,none⟩=some (.int .i64 n):=ZH WS.out 0 rfl
 have s1:W.cell? ⟨w.heap.size+1,1,none⟩=some (.int .i64 t):=ZH WS.out 1 rfl
 have s2:W.cell? ⟨w.heap.size+1,2,none⟩=some (.int .i64 f):=ZH WS.out 2 rfl
 cases b1:inB 1 1048576 n with
 | false =>
   have B1:=Lib.hid b1
   clear b1
   go_wp2_with (go_at_call 71;(first | (with_reducible refine (ZC B1.out _).mono ?_));rintro e w1 ⟨rfl,rfl⟩)
   go_ret
   exact ⟨Zi (by rw [E.out];simp [B1.out]),WB.out⟩
 | true =>
   have B1:=Lib.hid b1
   clear b1
   cases b2:inB 0 n t with
   | false =>
     have B2:=Lib.hid b2
     clear b2
     go_wp2_with (go_at_call 71;(first | (with_reducible refine (ZC B1.out _).mono ?_) | (with_reducible refine (ZC B2.out _).mono ?_));rintro e w1 ⟨rfl,rfl⟩)
     go_ret
     exact ⟨Zi (by rw [E.out];simp [B2.out]),WB.out⟩
   | true =>
     have B2:=Lib.hid b2
     clear b2
     cases b3:inB 0 n f with
     | false =>
       have B3:=Lib.hid b3
       clear b3
       go_wp2_with (go_at_call 71;(first | (with_reducible refine (ZC B1.out _).mono ?_) | (with_reducible refine (ZC B2.out _).mono ?_) | (with_reducible refine (ZC B3.out _).mono ?_));rintro e w1 ⟨rfl,rfl⟩)
       go_ret
       exact ⟨Zi (by rw [E.out];simp [B3.out]),WB.out⟩
     | true =>
       have B3:=Lib.hid b3
       clear b3
       by_cases f0:q.fzz=0
       ·have i0:(q.fzz==0)=true:=by rw [f0];rfl
        by_cases e1:t=0
        ·have i1:(t != 0)=false:=by simpa using e1
         by_cases e2:f=0
         ·have i2:(f != 0)=false:=by simpa using e2
          have F0:=Lib.hid (show (decide (q.fzz=0) && !(decide (t=0)&&decide (f=0)))=false by simp [e1,e2])
          clear f0 e1 e2
          by_cases t0:q.top=4
          ·have j0:(q.top==4)=true:=by rw [t0];rfl
           by_cases r0:n.tmod 2=0
           ·have r1:(n.tmod 2==0)=true:=by rw [r0];rfl
            have T0:=Lib.hid (show (decide (q.top=4)&&decide (n.tmod 2=0))=true by rw [t0,r0];rfl)
            clear t0 r0
            go_wp2_with (go_at_call 71;(first | (with_reducible refine (ZC B1.out _).mono ?_) | (with_reducible refine (ZC B2.out _).mono ?_) | (with_reducible refine (ZC B3.out _).mono ?_));rintro e w1 ⟨rfl,rfl⟩)
            go_ret
            exact ⟨Zi (by rw [E.out];rw [T0.out];simp),WB.out⟩
           have r1:(n.tmod 2==0)=false:=by simpa using r0
           have T0:=Lib.hid (show (decide (q.top=4)&&decide (n.tmod 2=0))=false by simp [r0])
           clear t0 r0
           go_wp2_with (go_at_call 71;(first | (with_reducible refine (ZC B1.out _).mono ?_) | (with_reducible refine (ZC B2.out _).mono ?_) | (with_reducible refine (ZC B3.out _).mono ?_));rintro e w1 ⟨rfl,rfl⟩)
           go_loopw [55] (fun u wr=>∃ k:Nat,k≤q.res.length∧u = .int .i64 k∧(q.res.take k).all (fun l=>decide (0≤linV l.c l.n l.t l.f n t f))=true∧Below W.heap.size W wr) (fun u _=>q.res.length-(intOf u).toNat)
           case atStart=>exact ⟨0,Nat.zero_le _,rfl,rfl,Below.refl _ _⟩
           case round =>
            obtain ⟨k,hk,rfl,hs,hB⟩:=hrel
            have HS:=Lib.hid hs
            have HB:=Lib.hid hB
            clear hs hB
            by_cases h1:k<q.res.length
            ·obtain ⟨b',off',cs,hab,hbw,_,hcl,hcc,hel⟩:=H6.out.at k h1
             obtain rfl:=hab
             have VB:=Lib.hid (Ze WB.out HB.out)
             have RG:=Lib.hid (rangeBelow (rangeOf hcl hcc) VB.out)
             rw [show cs=lnC q.res[k] from hel.1] at RG
             have HNO:=Lib.hid (fun h=>Zet (p:=fun l:Ln=>decide (0≤linV l.c l.n l.t l.f n t f)) h1 h)
             have HYES:=Lib.hid (fun h=>ZaL (p:=fun l:Ln=>decide (0≤linV l.c l.n l.t l.f n t f)) h1 HS.out h)
             clear hcl hcc hel
             generalize q.res[k]=l at RG HNO HYES
             have t0:=keep1 s0 HB.out
             have t1:=keep1 s1 HB.out
             have t2:=keep1 s2 HB.out
             go_upto_region 9 with (fail)
             refine wp_region_lit ?_
             refine wpList_step fun K hK => ?_
             go_simp
             refine hK _ _ ?_
             clear hK K
             refine ZaG Tryz.underlying109 KW (by rfl) (.tmp 57) (by rfl) b' (off'+k*4) (lnC l) (by rfl) (by rfl) RG.out ?_
             refine wpList_step fun K hK => ?_
             go_simp
             refine hK _ _ ?_
             clear hK K
             refine KB (T:=109) KW (by rfl) (.tmp 6) (.tmp 58) (by rfl) wr.heap.size (lnC l) (by rfl) (by rfl) (by rfl) (ZY _ _ rfl) (by rfl) (by intro v hv;simp [lnC] at hv;rcases hv with rfl | rfl | rfl | rfl<;>rfl) (fun Y hY hbl hsz _ => ?_)
             have YB:=Lib.hid (show Below W.heap.size W Y from hbl _ _ HB.out.size (HB.out.trans ((Zd wr _).mono HB.out.size)))
             have YR:=Lib.hid (show Below wr.heap.size wr Y from hbl _ _ (Nat.le_refl _) (Zd wr _))
             have y0:Y.cell? ⟨wr.heap.size,0,none⟩=some (.int .i64 l.c):=ZH hY 0 (by rfl)
             have y1:Y.cell? ⟨wr.heap.size,1,none⟩=some (.int .i64 l.n):=ZH hY 1 (by rfl)
             have y2:Y.cell? ⟨wr.heap.size,2,none⟩=some (.int .i64 l.t):=ZH hY 2 (by rfl)
             have y3:Y.cell? ⟨wr.heap.size,3,none⟩=some (.int .i64 l.f):=ZH hY 3 (by rfl)
             have u0:=keep1 t0 YR.out
             have u1:=keep1 t1 YR.out
             have u2:=keep1 t2 YR.out
             clear hY hbl hsz YR RG t0 t1 t2 x1 x5 x6 s0 s1 s2
             refine wpList_nil ?_
             simp only [Act.put]
             by_cases hv:linV l.c l.n l.t l.f n t f<0
             ·have HV:=Lib.hid hv
              go_wp2_with (go_at_call 84;(with_reducible refine (Yg _ _ _ _ _ _ _ _).mono ?_);rintro e w1 ⟨rfl,hb1⟩)
              go_ret
              have HA:=Lib.hid (show resvB q n t f=false from HNO.out (decide_eq_false (by have:=HV.out;omega)))
              exact ⟨Zi (by rw [E.out,HA.out];simp),Ze WB.out (Ze YB.out hb1)⟩
             have HV:=Lib.hid (show 0≤linV l.c l.n l.t l.f n t f by omega)
             go_wp2_with (go_at_call 84;(with_reducible refine (Yg _ _ _ _ _ _ _ _).mono ?_);rintro e w1 ⟨rfl,hb1⟩)
             go_roundw
             case rel=>exact ⟨k+1,by omega,by go_num,HYES.out (decide_eq_true HV.out),Ze YB.out hb1⟩
             case measure=>simp [intOf];omega
            have HA:=Lib.hid (show resvB q n t f=true by have:=HS.out;rw [show k=q.res.length by omega,List.take_length] at this;exact this)
            go_wp2_with fail
            go_ret
            exact ⟨Zi (by rw [E.out,B1.out,B2.out,B3.out,F0.out,T0.out,HA.out];rfl),Ze WB.out HB.out⟩
          have j0:(q.top==4)=false:=by simpa using t0
          have T0:=Lib.hid (show (decide (q.top=4)&&decide (n.tmod 2=0))=false by simp [t0])
          clear t0
          go_wp2_with (go_at_call 71;(first | (with_reducible refine (ZC B1.out _).mono ?_) | (with_reducible refine (ZC B2.out _).mono ?_) | (with_reducible refine (ZC B3.out _).mono ?_));rintro e w1 ⟨rfl,rfl⟩)
          go_loopw [55] (fun u wr=>∃ k:Nat,k≤q.res.length∧u = .int .i64 k∧(q.res.take k).all (fun l=>decide (0≤linV l.c l.n l.t l.f n t f))=true∧Below W.heap.size W wr) (fun u _=>q.res.length-(intOf u).toNat)
          case atStart=>exact ⟨0,Nat.zero_le _,rfl,rfl,Below.refl _ _⟩
          case round =>
           obtain ⟨k,hk,rfl,hs,hB⟩:=hrel
           have HS:=Lib.hid hs
           have HB:=Lib.hid hB
           clear hs hB
           by_cases h1:k<q.res.length
           ·obtain ⟨b',off',cs,hab,hbw,_,hcl,hcc,hel⟩:=H6.out.at k h1
            obtain rfl:=hab
            have VB:=Lib.hid (Ze WB.out HB.out)
            have RG:=Lib.hid (rangeBelow (rangeOf hcl hcc) VB.out)
            rw [show cs=lnC q.res[k] from hel.1] at RG
            have HNO:=Lib.hid (fun h=>Zet (p:=fun l:Ln=>decide (0≤linV l.c l.n l.t l.f n t f)) h1 h)
            have HYES:=Lib.hid (fun h=>ZaL (p:=fun l:Ln=>decide (0≤linV l.c l.n l.t l.f n t f)) h1 HS.out h)
            clear hcl hcc hel
            generalize q.res[k]=l at RG HNO HYES
            have t0:=keep1 s0 HB.out
            have t1:=keep1 s1 HB.out
            have t2:=keep1 s2 HB.out
            go_upto_region 9 with (fail)
            refine wp_region_lit ?_
            refine wpList_step fun K hK => ?_
            go_simp
            refine hK _ _ ?_
            clear hK K
            refine ZaG Tryz.underlying109 KW (by rfl) (.tmp 57) (by rfl) b' (off'+k*4) (lnC l) (by rfl) (by rfl) RG.out ?_
            refine wpList_step fun K hK => ?_
            go_simp
            refine hK _ _ ?_
            clear hK K
            refine KB (T:=109) KW (by rfl) (.tmp 6) (.tmp 58) (by rfl) wr.heap.size (lnC l) (by rfl) (by rfl) (by rfl) (ZY _ _ rfl) (by rfl) (by intro v hv;simp [lnC] at hv;rcases hv with rfl | rfl | rfl | rfl<;>rfl) (fun Y hY hbl hsz _ => ?_)
            have YB:=Lib.hid (show Below W.heap.size W Y from hbl _ _ HB.out.size (HB.out.trans ((Zd wr _).mono HB.out.size)))
            have YR:=Lib.hid (show Below wr.heap.size wr Y from hbl _ _ (Nat.le_refl _) (Zd wr _))
            have y0:Y.cell? ⟨wr.heap.size,0,none⟩=some (.int .i64 l.c):=ZH hY 0 (by rfl)
            have y1:Y.cell? ⟨wr.heap.size,1,none⟩=some (.int .i64 l.n):=ZH hY 1 (by rfl)
            have y2:Y.cell? ⟨wr.heap.size,2,none⟩=some (.int .i64 l.t):=ZH hY 2 (by rfl)
            have y3:Y.cell? ⟨wr.heap.size,3,none⟩=some (.int .i64 l.f):=ZH hY 3 (by rfl)
            have u0:=keep1 t0 YR.out
            have u1:=keep1 t1 YR.out
            have u2:=keep1 t2 YR.out
            clear hY hbl hsz YR RG t0 t1 t2 x1 x5 x6 s0 s1 s2
            refine wpList_nil ?_
            simp only [Act.put]
            by_cases hv:linV l.c l.n l.t l.f n t f<0
            ·have HV:=Lib.hid hv
             go_wp2_with (go_at_call 84;(with_reducible refine (Yg _ _ _ _ _ _ _ _).mono ?_);rintro e w1 ⟨rfl,hb1⟩)
             go_ret
             have HA:=Lib.hid (show resvB q n t f=false from HNO.out (decide_eq_false (by have:=HV.out;omega)))
             exact ⟨Zi (by rw [E.out,HA.out];simp),Ze WB.out (Ze YB.out hb1)⟩
            have HV:=Lib.hid (show 0≤linV l.c l.n l.t l.f n t f by omega)
            go_wp2_with (go_at_call 84;(with_reducible refine (Yg _ _ _ _ _ _ _ _).mono ?_);rintro e w1 ⟨rfl,hb1⟩)
            go_roundw
            case rel=>exact ⟨k+1,by omega,by go_num,HYES.out (decide_eq_true HV.out),Ze YB.out hb1⟩
            case measure=>simp [intOf];omega
           have HA:=Lib.hid (show resvB q n t f=true by have:=HS.out;rw [show k=q.res.length by omega,List.take_length] at this;exact this)
           go_wp2_with fail
           go_ret
           exact ⟨Zi (by rw [E.out,B1.out,B2.out,B3.out,F0.out,T0.out,HA.out];rfl),Ze WB.out HB.out⟩
         have i2:(f != 0)=true:=by simpa using e2
         have F0:=Lib.hid (show (decide (q.fzz=0) && !(decide (t=0)&&decide (f=0)))=true by simp [f0,e2])
         clear f0 e1 e2
         go_wp2_with (go_at_call 71;(first | (with_reducible refine (ZC B1.out _).mono ?_) | (with_reducible refine (ZC B2.out _).mono ?_) | (with_reducible refine (ZC B3.out _).mono ?_));rintro e w1 ⟨rfl,rfl⟩)
         go_ret
         exact ⟨Zi (by rw [E.out];rw [F0.out];simp),WB.out⟩
        have i1:(t != 0)=true:=by simpa using e1
        have F0:=Lib.hid (show (decide (q.fzz=0) && !(decide (t=0)&&decide (f=0)))=true by simp [f0,e1])
        clear f0 e1
        go_wp2_with (go_at_call 71;(first | (with_reducible refine (ZC B1.out _).mono ?_) | (with_reducible refine (ZC B2.out _).mono ?_) | (with_reducible refine (ZC B3.out _).mono ?_));rintro e w1 ⟨rfl,rfl⟩)
        go_ret
        exact ⟨Zi (by rw [E.out];rw [F0.out];simp),WB.out⟩
       have i0:(q.fzz==0)=false:=by simpa using f0
       have F0:=Lib.hid (show (decide (q.fzz=0) && !(decide (t=0)&&decide (f=0)))=false by simp [f0])
       clear f0
       by_cases t0:q.top=4
       ·have j0:(q.top==4)=true:=by rw [t0];rfl
        by_cases r0:n.tmod 2=0
        ·have r1:(n.tmod 2==0)=true:=by rw [r0];rfl
         have T0:=Lib.hid (show (decide (q.top=4)&&decide (n.tmod 2=0))=true by rw [t0,r0];rfl)
         clear t0 r0
         go_wp2_with (go_at_call 71;(first | (with_reducible refine (ZC B1.out _).mono ?_) | (with_reducible refine (ZC B2.out _).mono ?_) | (with_reducible refine (ZC B3.out _).mono ?_));rintro e w1 ⟨rfl,rfl⟩)
         go_ret
         exact ⟨Zi (by rw [E.out];rw [T0.out];simp),WB.out⟩
        have r1:(n.tmod 2==0)=false:=by simpa using r0
        have T0:=Lib.hid (show (decide (q.top=4)&&decide (n.tmod 2=0))=false by simp [r0])
        clear t0 r0
        go_wp2_with (go_at_call 71;(first | (with_reducible refine (ZC B1.out _).mono ?_) | (with_reducible refine (ZC B2.out _).mono ?_) | (with_reducible refine (ZC B3.out _).mono ?_));rintro e w1 ⟨rfl,rfl⟩)
        go_loopw [55] (fun u wr=>∃ k:Nat,k≤q.res.length∧u = .int .i64 k∧(q.res.take k).all (fun l=>decide (0≤linV l.c l.n l.t l.f n t f))=true∧Below W.heap.size W wr) (fun u _=>q.res.length-(intOf u).toNat)
        case atStart=>exact ⟨0,Nat.zero_le _,rfl,rfl,Below.refl _ _⟩
        case round =>
         obtain ⟨k,hk,rfl,hs,hB⟩:=hrel
         have HS:=Lib.hid hs
         have HB:=Lib.hid hB
         clear hs hB
         by_cases h1:k<q.res.length
         ·obtain ⟨b',off',cs,hab,hbw,_,hcl,hcc,hel⟩:=H6.out.at k h1
          obtain rfl:=hab
          have VB:=Lib.hid (Ze WB.out HB.out)
          have RG:=Lib.hid (rangeBelow (rangeOf hcl hcc) VB.out)
          rw [show cs=lnC q.res[k] from hel.1] at RG
          have HNO:=Lib.hid (fun h=>Zet (p:=fun l:Ln=>decide (0≤linV l.c l.n l.t l.f n t f)) h1 h)
          have HYES:=Lib.hid (fun h=>ZaL (p:=fun l:Ln=>decide (0≤linV l.c l.n l.t l.f n t f)) h1 HS.out h)
          clear hcl hcc hel
          generalize q.res[k]=l at RG HNO HYES
          have t0:=keep1 s0 HB.out
          have t1:=keep1 s1 HB.out
          have t2:=keep1 s2 HB.out
          go_upto_region 9 with (fail)
          refine wp_region_lit ?_
          refine wpList_step fun K hK => ?_
          go_simp
          refine hK _ _ ?_
          clear hK K
          refine ZaG Tryz.underlying109 KW (by rfl) (.tmp 57) (by rfl) b' (off'+k*4) (lnC l) (by rfl) (by rfl) RG.out ?_
          refine wpList_step fun K hK => ?_
          go_simp
          refine hK _ _ ?_
          clear hK K
          refine KB (T:=109) KW (by rfl) (.tmp 6) (.tmp 58) (by rfl) wr.heap.size (lnC l) (by rfl) (by rfl) (by rfl) (ZY _ _ rfl) (by rfl) (by intro v hv;simp [lnC] at hv;rcases hv with rfl | rfl | rfl | rfl<;>rfl) (fun Y hY hbl hsz _ => ?_)
          have YB:=Lib.hid (show Below W.heap.size W Y from hbl _ _ HB.out.size (HB.out.trans ((Zd wr _).mono HB.out.size)))
          have YR:=Lib.hid (show Below wr.heap.size wr Y from hbl _ _ (Nat.le_refl _) (Zd wr _))
          have y0:Y.cell? ⟨wr.heap.size,0,none⟩=some (.int .i64 l.c):=ZH hY 0 (by rfl)
          have y1:Y.cell? ⟨wr.heap.size,1,none⟩=some (.int .i64 l.n):=ZH hY 1 (by rfl)
          have y2:Y.cell? ⟨wr.heap.size,2,none⟩=some (.int .i64 l.t):=ZH hY 2 (by rfl)
          have y3:Y.cell? ⟨wr.heap.size,3,none⟩=some (.int .i64 l.f):=ZH hY 3 (by rfl)
          have u0:=keep1 t0 YR.out
          have u1:=keep1 t1 YR.out
          have u2:=keep1 t2 YR.out
          clear hY hbl hsz YR RG t0 t1 t2 x1 x5 x6 s0 s1 s2
          refine wpList_nil ?_
          simp only [Act.put]
          by_cases hv:linV l.c l.n l.t l.f n t f<0
          ·have HV:=Lib.hid hv
           go_wp2_with (go_at_call 84;(with_reducible refine (Yg _ _ _ _ _ _ _ _).mono ?_);rintro e w1 ⟨rfl,hb1⟩)
           go_ret
           have HA:=Lib.hid (show resvB q n t f=false from HNO.out (decide_eq_false (by have:=HV.out;omega)))
           exact ⟨Zi (by rw [E.out,HA.out];simp),Ze WB.out (Ze YB.out hb1)⟩
          have HV:=Lib.hid (show 0≤linV l.c l.n l.t l.f n t f by omega)
          go_wp2_with (go_at_call 84;(with_reducible refine (Yg _ _ _ _ _ _ _ _).mono ?_);rintro e w1 ⟨rfl,hb1⟩)
          go_roundw
          case rel=>exact ⟨k+1,by omega,by go_num,HYES.out (decide_eq_true HV.out),Ze YB.out hb1⟩
          case measure=>simp [intOf];omega
         have HA:=Lib.hid (show resvB q n t f=true by have:=HS.out;rw [show k=q.res.length by omega,List.take_length] at this;exact this)
         go_wp2_with fail
         go_ret
         exact ⟨Zi (by rw [E.out,B1.out,B2.out,B3.out,F0.out,T0.out,HA.out];rfl),Ze WB.out HB.out⟩
       have j0:(q.top==4)=false:=by simpa using t0
       have T0:=Lib.hid (show (decide (q.top=4)&&decide (n.tmod 2=0))=false by simp [t0])
       clear t0
       go_wp2_with (go_at_call 71;(first | (with_reducible refine (ZC B1.out _).mono ?_) | (with_reducible refine (ZC B2.out _).mono ?_) | (with_reducible refine (ZC B3.out _).mono ?_));rintro e w1 ⟨rfl,rfl⟩)
       go_loopw [55] (fun u wr=>∃ k:Nat,k≤q.res.length∧u = .int .i64 k∧(q.res.take k).all (fun l=>decide (0≤linV l.c l.n l.t l.f n t f))=true∧Below W.heap.size W wr) (fun u _=>q.res.length-(intOf u).toNat)
       case atStart=>exact ⟨0,Nat.zero_le _,rfl,rfl,Below.refl _ _⟩
       case round =>
        obtain ⟨k,hk,rfl,hs,hB⟩:=hrel
        have HS:=Lib.hid hs
        have HB:=Lib.hid hB
        clear hs hB
        by_cases h1:k<q.res.length
        ·obtain ⟨b',off',cs,hab,hbw,_,hcl,hcc,hel⟩:=H6.out.at k h1
         obtain rfl:=hab
         have VB:=Lib.hid (Ze WB.out HB.out)
         have RG:=Lib.hid (rangeBelow (rangeOf hcl hcc) VB.out)
         rw [show cs=lnC q.res[k] from hel.1] at RG
         have HNO:=Lib.hid (fun h=>Zet (p:=fun l:Ln=>decide (0≤linV l.c l.n l.t l.f n t f)) h1 h)
         have HYES:=Lib.hid (fun h=>ZaL (p:=fun l:Ln=>decide (0≤linV l.c l.n l.t l.f n t f)) h1 HS.out h)
         clear hcl hcc hel
         generalize q.res[k]=l at RG HNO HYES
         have t0:=keep1 s0 HB.out
         have t1:=keep1 s1 HB.out
         have t2:=keep1 s2 HB.out
         go_upto_region 9 with (fail)
         refine wp_region_lit ?_
         refine wpList_step fun K hK => ?_
         go_simp
         refine hK _ _ ?_
         clear hK K
         refine ZaG Tryz.underlying109 KW (by rfl) (.tmp 57) (by rfl) b' (off'+k*4) (lnC l) (by rfl) (by rfl) RG.out ?_
         refine wpList_step fun K hK => ?_
         go_simp
         refine hK _ _ ?_
         clear hK K
         refine KB (T:=109) KW (by rfl) (.tmp 6) (.tmp 58) (by rfl) wr.heap.size (lnC l) (by rfl) (by rfl) (by rfl) (ZY _ _ rfl) (by rfl) (by intro v hv;simp [lnC] at hv;rcases hv with rfl | rfl | rfl | rfl<;>rfl) (fun Y hY hbl hsz _ => ?_)
         have YB:=Lib.hid (show Below W.heap.size W Y from hbl _ _ HB.out.size (HB.out.trans ((Zd wr _).mono HB.out.size)))
         have YR:=Lib.hid (show Below wr.heap.size wr Y from hbl _ _ (Nat.le_refl _) (Zd wr _))
         have y0:Y.cell? ⟨wr.heap.size,0,none⟩=some (.int .i64 l.c):=ZH hY 0 (by rfl)
         have y1:Y.cell? ⟨wr.heap.size,1,none⟩=some (.int .i64 l.n):=ZH hY 1 (by rfl)
         have y2:Y.cell? ⟨wr.heap.size,2,none⟩=some (.int .i64 l.t):=ZH hY 2 (by rfl)
         have y3:Y.cell? ⟨wr.heap.size,3,none⟩=some (.int .i64 l.f):=ZH hY 3 (by rfl)
         have u0:=keep1 t0 YR.out
         have u1:=keep1 t1 YR.out
         have u2:=keep1 t2 YR.out
         clear hY hbl hsz YR RG t0 t1 t2 x1 x5 x6 s0 s1 s2
         refine wpList_nil ?_
         simp only [Act.put]
         by_cases hv:linV l.c l.n l.t l.f n t f<0
         ·have HV:=Lib.hid hv
          go_wp2_with (go_at_call 84;(with_reducible refine (Yg _ _ _ _ _ _ _ _).mono ?_);rintro e w1 ⟨rfl,hb1⟩)
          go_ret
          have HA:=Lib.hid (show resvB q n t f=false from HNO.out (decide_eq_false (by have:=HV.out;omega)))
          exact ⟨Zi (by rw [E.out,HA.out];simp),Ze WB.out (Ze YB.out hb1)⟩
         have HV:=Lib.hid (show 0≤linV l.c l.n l.t l.f n t f by omega)
         go_wp2_with (go_at_call 84;(with_reducible refine (Yg _ _ _ _ _ _ _ _).mono ?_);rintro e w1 ⟨rfl,hb1⟩)
         go_roundw
         case rel=>exact ⟨k+1,by omega,by go_num,HYES.out (decide_eq_true HV.out),Ze YB.out hb1⟩
         case measure=>simp [intOf];omega
        have HA:=Lib.hid (show resvB q n t f=true by have:=HS.out;rw [show k=q.res.length by omega,List.take_length] at this;exact this)
        go_wp2_with fail
        go_ret
        exact ⟨Zi (by rw [E.out,B1.out,B2.out,B3.out,F0.out,T0.out,HA.out];rfl),Ze WB.out HB.out⟩
end Go.Proofs.YtdbehgbggaaipaaGreat
