import Derived.Test.YtdbehgbggaaipaaGreatProg
import Derived.Shelf.Strconv.Itoa3
import Derived.Lib.AppendIntMem
import Derived.Lib.ItoaLen
import Derived.Lib.Hide
import Derived.WalkSpells
import Derived.StillTailTactics
import Derived.Deep.RegionHeld3
import Derived.Test.YtdbehgbggaaipaaGreatGrpmknfboop
import Derived.Test.YtdbehgbggaaipaaGreatGrpblcpooha
import Derived.Test.YtdbehgbggaaipaaGreatGrpomndejbf
import Derived.Test.YtdbehgbggaaipaaGreatGrpkgnmkbgm
import Derived.Test.YtdbehgbggaaipaaGreatGrpmplibfba
set_option linter.all false
namespace Go.Proofs.YtdbehgbggaaipaaGreat
open Go.RowKit Go.Shelf
def TabW (w : World) : Prop := Go.Lib.TabIs Tryz.prog w "internal/strconv.uint64pow10" .u64 Go.Lib.pow10Tab
theorem TabW.below {w w':World} (h:TabW w) (hb:Below w.heap.size w w'):TabW w':=by
 have:=Go.Lib.tabBelow_of_tabIs h
 exact this w' hb
end Go.Proofs.YtdbehgbggaaipaaGreat
namespace Go.Proofs.YtdbehgbggaaipaaGreat
open Go.RowKit Go.Deep
set_option maxHeartbeats 12800000
theorem IsSl.take {α:Type} {size:Nat} {P:Nat→World→List Value→α→Prop} {lo:Nat} {w:World} {a:Option Addr} {n cap:Nat} {xs:List α} (h:IsSl size P lo w (.slice a n cap) xs) (k:Nat) (hk:k≤xs.length):IsSl size P lo w (.slice a k cap) (xs.take k):=by
 obtain ⟨a',cap',hv,h1,hm,hn,hc⟩:=h
 simp only [Value.slice.injEq] at hv
 obtain ⟨rfl,rfl,rfl⟩:=hv
 have e:(xs.take k).length=k:=by simp;omega
 refine ⟨a,cap,by rw [e],by omega,hm,hn,?_⟩
 rcases hc with rfl | ⟨b,off,ha,hlo,hb,hc⟩
 ·exact .inl (by simp)
 refine .inr ⟨b,off,ha,hlo,hb,fun i hi => ?_⟩
 obtain ⟨cs,g1,g2,g3⟩:=hc i (by omega)
 exact ⟨cs,g1,g2,by simpa using g3⟩
theorem YK:(Tryz.prog.info? 27).map (·.size)=some 10:=by kernel_rfl
variable {q:Fm}{i:Nat}{r:Ru}
theorem ruleE_nm (h:nameB r.nm.toList=false∨hasR (q.rz.take i) r.nm=true):ruleE q i r=2:=if_pos h
theorem Zcg (h:nameB r.nm.toList=true) (h':hasR (q.rz.take i) r.nm=false) (hf:fitB r.kind q.top=false∨othB r q.top=false):ruleE q i r=6:=by
 unfold ruleE;rw [if_neg (by rw [h,h'];simp),if_pos hf]
theorem ZeF (h:nameB r.nm.toList=true) (h':hasR (q.rz.take i) r.nm=false) (hf:fitB r.kind q.top=true) (ho:othB r q.top=true) (hs:stB r q.sz.length=false):ruleE q i r=5:=by
 unfold ruleE;rw [if_neg (by rw [h,h'];simp),if_neg (by rw [hf,ho];simp),if_pos hs]
theorem ruleE_part (h:nameB r.nm.toList=true) (h':hasR (q.rz.take i) r.nm=false) (hf:fitB r.kind q.top=true) (ho:othB r q.top=true) (hs:stB r q.sz.length=true):ruleE q i r=partE q r:=by
 unfold ruleE;rw [if_neg (by rw [h,h'];simp),if_neg (by rw [hf,ho];simp),if_neg (by rw [hs];simp)]
variable {lo:Nat}{w:World}{v:Value}
theorem KE (i:Nat) (hi:i<q.rz.length) (hq:IsFam lo w v q) :
 Calls Tryz.prog 80 #[v,.int .i64 i] w fun e w'=>e = .returned (.int .i64 (ruleE q i q.rz[i]))∧Below w.heap.size w w':=by
 have HQ:=Lib.hid hq
 obtain ⟨v2,v3,v4,v6,v7,v8,v9,rfl,_,_,h2,h3,h4,_,h6,h7,h8,h9⟩:=hq
 have hnn:=h2.bound
 have HN:=Lib.hid hnn
 have h9b:=h9.bound
 obtain ⟨a2,c2,rfl⟩:=h2.shape
 obtain ⟨a3,c3,rfl⟩:=h3.shape
 obtain ⟨a4,c4,rfl⟩:=h4.shape
 obtain ⟨a9,c9,rfl⟩:=h9.shape
 obtain ⟨b,off,cs,rfl,_,hb,hl,hc,hel⟩:=h9.at i hi
 have H9:=Lib.hid h9
 have HC9:=Lib.hid (show q.rz.length≤c9 by obtain ⟨_,_,e,h,_⟩:=h9;simp only [Value.slice.injEq] at e;omega)
 obtain ⟨-,p0,hnm,p1,hkI,pc⟩:=ZaO hel
 have HL:=Lib.hid hl
 have HR:=Lib.hid (rangeOf hl hc)
 generalize hr:q.rz[i]=r at hel p0 hnm p1 hkI
 have HE:=Lib.hid hel
 have P0:=Lib.hid p0
 have P1:=Lib.hid p1
 have PC:=Lib.hid pc
 have HNM:=Lib.hid hnm
 have HI:=Lib.hid hkI
 have hb1:=hb
 clear h2 h3 h4 h6 h7 h8 h9 hc hl hel p0 p1 pc hr hnm hkI hb
 go_enter Tryz.func80,Tryz.ntmps80
 go_upto_region 1 with (fail)
 obtain ⟨W,hW⟩:∃ W:World,W=w.alloc (.cells #[.string q.nm,.int .i64 q.top,.slice a2 q.sz.length c2,.slice a3 q.msgs.length c3,.slice a4 q.vals.length c4,.int .i64 q.fzz,v6,v7,v8,.slice (some ⟨b,off,none⟩) q.rz.length c9] 27):=⟨_,rfl⟩
 have hs:W.heap.size=w.heap.size+1:=by rw [hW];simp
 have HSZ:=Lib.hid hs
 rw [← hW]
 have HB:=Lib.hid (show Below w.heap.size w W by rw [hW];exact Zd _ _)
 have HP:=Lib.hid (show W.heap[w.heap.size]? = some (.cells #[.string q.nm,.int .i64 q.top,.slice a2 q.sz.length c2,.slice a3 q.msgs.length c3,.slice a4 q.vals.length c4,.int .i64 q.fzz,v6,v7,v8,.slice (some ⟨b,off,none⟩) q.rz.length c9] 27 (0,0)) by rw [hW];exact ZY _ _ rfl)
 clear hW
 have x9:W.cell? ⟨w.heap.size,9,none⟩=some (.slice (some ⟨b,off,none⟩) q.rz.length c9):=ZH HP.out 9 rfl
 refine wp_region_lit ?_
 iterate 4
  refine wpList_step fun K hK => ?_
  go_simp
  refine hK _ _ ?_
  clear hK K
 refine ZaG Tryz.underlying57 Yr (by rfl) (.tmp 9) (by rfl) b (off+i*18) cs (by rfl) HL.out (rangeBelow HR.out HB.out) ?_
 refine wpList_step fun K hK => ?_
 go_simp
 refine hK _ _ ?_
 clear hK K
 refine KB (T:=57) Yr (by rfl) (.tmp 5) (.tmp 10) (by rfl) (w.heap.size+1) cs (by rfl) (by rfl) HL.out (ZY W _ hs.symm) (by rfl) PC.out (fun Z hZ hbl hsz hoth => ?_)
 have ZB:=Lib.hid (show Below w.heap.size w Z from hbl _ _ (by omega) (HB.out.trans ((Zd W _).mono HB.out.size)))
 have ZP:=Lib.hid (show Z.heap[w.heap.size]? = some (.cells #[.string q.nm,.int .i64 q.top,.slice a2 q.sz.length c2,.slice a3 q.msgs.length c3,.slice a4 q.vals.length c4,.int .i64 q.fzz,v6,v7,v8,.slice (some ⟨b,off,none⟩) q.rz.length c9] 27 (0,0)) from (hoth _ (by omega)).trans ((ZaI W _ (by omega)).trans HP.out))
 have ZG:=Lib.hid (show Z.heap[w.heap.size+1]? = some (.cells cs.toArray 57 (0,0)) from hZ)
 clear hZ hbl hsz hoth x9
 clear hs
 refine wpList_nil ?_
 simp only [Act.put]
 go_upto_region 2 with (fail)
 have ZGn:=Lib.hid (show ∀ n:WIn (Below Z.heap.size Z),n.val.heap[w.heap.size+1]? = some (.cells cs.toArray 57 (0,0)) from fun n=>keepB ZG.out n.ok)
 have ZPn:=Lib.hid (show ∀ n:WIn (Below Z.heap.size Z),n.val.heap[w.heap.size]? = some (.cells #[.string q.nm,.int .i64 q.top,.slice a2 q.sz.length c2,.slice a3 q.msgs.length c3,.slice a4 q.vals.length c4,.int .i64 q.fzz,v6,v7,v8,.slice (some ⟨b,off,none⟩) q.rz.length c9] 27 (0,0)) from fun n=>keepB ZP.out n.ok)
 have ZBn:=Lib.hid (show ∀ n:WIn (Below Z.heap.size Z),Below w.heap.size w n.val from fun n=>Ze ZB.out n.ok)
 have c0:∀ n:WIn (Below Z.heap.size Z),n.val.cell? ⟨w.heap.size+1,0,none⟩=some (.string r.nm):=fun n=>ZH (ZGn.out n) 0 (by simpa using P0.out)
 have hic:i≤c9:=by have:=HC9.out;omega
 have cc9:∀ n:WIn (Below Z.heap.size Z),n.val.cell? ⟨w.heap.size,9,none⟩=some (.slice (some ⟨b,off,none⟩) q.rz.length c9):=fun n=>ZH (ZPn.out n) 9 rfl
 cases n0:nameB r.nm.toList with
 | false =>
   have N0:=Lib.hid n0
   clear n0
   refine Zdl (by kernel_rfl) (by kernel_rfl) ?_
   iterate 2 go_big_quiet_step (fail)
   go_big_quiet_step (((with_reducible refine (Yu r.nm _ HNM.out).mono ?_);rw [N0.out];rintro e w1 ⟨rfl,hb⟩;exact ⟨rfl,⟨w1,Ze (WIn.ok _) hb⟩,rfl⟩))
   repeat (go_big_quiet_step (fail))
   refine wpQuiet_nil ?_
   intro n
   go_wp2_with fail
   go_ret
   exact ⟨Zt (ruleE_nm (.inl N0.out)).symm,ZBn.out n⟩
 | true =>
   have N0:=Lib.hid n0
   clear n0
   cases h0:hasR (q.rz.take i) r.nm with
   | true =>
     have H0:=Lib.hid h0
     clear h0
     refine Zdl (by kernel_rfl) (by kernel_rfl) ?_
     iterate 2 go_big_quiet_step (fail)
     go_big_quiet_step (((with_reducible refine (Yu r.nm _ HNM.out).mono ?_);rw [N0.out];rintro e w1 ⟨rfl,hb⟩;exact ⟨rfl,⟨w1,Ze (WIn.ok _) hb⟩,rfl⟩))
     iterate 8 go_big_quiet_step (fail)
     go_big_quiet_step (((with_reducible refine (ZbL r.nm ((H9.out.below RuEl.stays (ZBn.out _)).take i (by omega))).mono ?_);rw [H0.out];rintro e w1 ⟨rfl,hb⟩;exact ⟨rfl,⟨w1,Ze (WIn.ok _) hb⟩,rfl⟩))
     repeat (go_big_quiet_step (fail))
     refine wpQuiet_nil ?_
     intro n
     go_wp2_with fail
     go_ret
     exact ⟨Zt (ruleE_nm (.inr H0.out)).symm,ZBn.out n⟩
   | false =>
     have H0:=Lib.hid h0
     clear h0
     refine Zdl (by kernel_rfl) (by kernel_rfl) ?_
     iterate 2 go_big_quiet_step (fail)
     go_big_quiet_step (((with_reducible refine (Yu r.nm _ HNM.out).mono ?_);rw [N0.out];rintro e w1 ⟨rfl,hb⟩;exact ⟨rfl,⟨w1,Ze (WIn.ok _) hb⟩,rfl⟩))
     iterate 8 go_big_quiet_step (fail)
     go_big_quiet_step (((with_reducible refine (ZbL r.nm ((H9.out.below RuEl.stays (ZBn.out _)).take i (by omega))).mono ?_);rw [H0.out];rintro e w1 ⟨rfl,hb⟩;exact ⟨rfl,⟨w1,Ze (WIn.ok _) hb⟩,rfl⟩))
     repeat (go_big_quiet_step (fail))
     refine wpQuiet_nil ?_
     intro n
     have YG:=Lib.hid (ZGn.out n)
     have YP:=Lib.hid (ZPn.out n)
     have YB:=Lib.hid (ZBn.out n)
     generalize n.val=Y at YG YP YB ⊢
     clear n
     have YGn:=Lib.hid (show ∀ n:WIn (Below Y.heap.size Y),n.val.heap[w.heap.size+1]? = some (.cells cs.toArray 57 (0,0)) from fun n=>keepB YG.out n.ok)
     have YPn:=Lib.hid (show ∀ n:WIn (Below Y.heap.size Y),n.val.heap[w.heap.size]? = some (.cells #[.string q.nm,.int .i64 q.top,.slice a2 q.sz.length c2,.slice a3 q.msgs.length c3,.slice a4 q.vals.length c4,.int .i64 q.fzz,v6,v7,v8,.slice (some ⟨b,off,none⟩) q.rz.length c9] 27 (0,0)) from fun n=>keepB YP.out n.ok)
     have YBn:=Lib.hid (show ∀ n:WIn (Below Y.heap.size Y),Below w.heap.size w n.val from fun n=>Ze YB.out n.ok)
     have d1:∀ n:WIn (Below Y.heap.size Y),n.val.cell? ⟨w.heap.size+1,1,none⟩=some (.int .i64 r.kind):=fun n=>ZH (YGn.out n) 1 (by simpa using P1.out)
     have e1:∀ n:WIn (Below Y.heap.size Y),n.val.cell? ⟨w.heap.size,1,none⟩=some (.int .i64 q.top):=fun n=>ZH (YPn.out n) 1 rfl
     go_upto_region 4 with (fail)
     cases f0:fitB r.kind q.top with
     | false =>
       have F0:=Lib.hid f0
       clear f0
       refine Zz ?_
       iterate 4 go_big_quiet_step (fail)
       go_big_quiet_step (((with_reducible refine (W2 r.kind q.top _).mono ?_);rw [F0.out];rintro e w1 ⟨rfl,hb⟩;subst hb;exact ⟨rfl,⟨_,WIn.ok _⟩,rfl⟩))
       repeat (go_big_quiet_step (fail))
       refine wpQuiet_nil ?_
       intro n
       go_wp2_with fail
       go_ret
       exact ⟨Zt (Zcg N0.out H0.out (.inl F0.out)).symm,YBn.out n⟩
     | true =>
       have F0:=Lib.hid f0
       clear f0
       cases o0:othB r q.top with
       | false =>
         have O0:=Lib.hid o0
         clear o0
         refine Zz ?_
         iterate 4 go_big_quiet_step (fail)
         go_big_quiet_step (((with_reducible refine (W2 r.kind q.top _).mono ?_);rw [F0.out];rintro e w1 ⟨rfl,hb⟩;subst hb;exact ⟨rfl,⟨_,WIn.ok _⟩,rfl⟩))
         iterate 2 go_big_quiet_step (fail)
         refine BigFrame.wpQuiet_want (by rfl) (fun K hK => ?_)
         refine Yi Tryz.underlying57 Yr (.tmp 5) (by rfl) (w.heap.size+1) 0 cs (by rfl) HL.out (by rintro _ ⟨n,rfl⟩;exact ZT (YGn.out n)) (hK _ ?_)
         clear hK K
         simp only [Act.put,List.setIfInBounds_toArray,List.set_cons_succ,List.set_cons_zero]
         iterate 2 go_big_quiet_step (fail)
         go_big_quiet_step (((with_reducible refine (WX q.top (WD F0.out) (HE.out.below (YBn.out _))).mono ?_);rw [O0.out];rintro e w1 ⟨rfl,hb⟩;exact ⟨rfl,⟨w1,Ze (WIn.ok _) hb⟩,rfl⟩))
         repeat (go_big_quiet_step (fail))
         refine wpQuiet_nil ?_
         intro n
         go_wp2_with fail
         go_ret
         exact ⟨Zt (Zcg N0.out H0.out (.inr O0.out)).symm,YBn.out n⟩
       | true =>
         have O0:=Lib.hid o0
         clear o0
         refine Zz ?_
         iterate 4 go_big_quiet_step (fail)
         go_big_quiet_step (((with_reducible refine (W2 r.kind q.top _).mono ?_);rw [F0.out];rintro e w1 ⟨rfl,hb⟩;subst hb;exact ⟨rfl,⟨_,WIn.ok _⟩,rfl⟩))
         iterate 2 go_big_quiet_step (fail)
         refine BigFrame.wpQuiet_want (by rfl) (fun K hK => ?_)
         refine Yi Tryz.underlying57 Yr (.tmp 5) (by rfl) (w.heap.size+1) 0 cs (by rfl) HL.out (by rintro _ ⟨n,rfl⟩;exact ZT (YGn.out n)) (hK _ ?_)
         clear hK K
         simp only [Act.put,List.setIfInBounds_toArray,List.set_cons_succ,List.set_cons_zero]
         iterate 2 go_big_quiet_step (fail)
         go_big_quiet_step (((with_reducible refine (WX q.top (WD F0.out) (HE.out.below (YBn.out _))).mono ?_);rw [O0.out];rintro e w1 ⟨rfl,hb⟩;exact ⟨rfl,⟨w1,Ze (WIn.ok _) hb⟩,rfl⟩))
         repeat (go_big_quiet_step (fail))
         refine wpQuiet_nil ?_
         intro n
         clear d1 e1
         have XG:=Lib.hid (YGn.out n)
         have XP:=Lib.hid (YPn.out n)
         have XB:=Lib.hid (YBn.out n)
         generalize n.val=X at XG XP XB ⊢
         clear n
         have XGn:=Lib.hid (show ∀ n:WIn (Below X.heap.size X),n.val.heap[w.heap.size+1]? = some (.cells cs.toArray 57 (0,0)) from fun n=>keepB XG.out n.ok)
         have XPn:=Lib.hid (show ∀ n:WIn (Below X.heap.size X),n.val.heap[w.heap.size]? = some (.cells #[.string q.nm,.int .i64 q.top,.slice a2 q.sz.length c2,.slice a3 q.msgs.length c3,.slice a4 q.vals.length c4,.int .i64 q.fzz,v6,v7,v8,.slice (some ⟨b,off,none⟩) q.rz.length c9] 27 (0,0)) from fun n=>keepB XP.out n.ok)
         have XBn:=Lib.hid (show ∀ n:WIn (Below X.heap.size X),Below w.heap.size w n.val from fun n=>Ze XB.out n.ok)
         have f2:∀ n:WIn (Below X.heap.size X),n.val.cell? ⟨w.heap.size,2,none⟩=some (.slice a2 q.sz.length c2):=fun n=>ZH (XPn.out n) 2 rfl
         go_upto_region 6 with (fail)
         cases s0:stB r q.sz.length with
         | false =>
           have S0:=Lib.hid s0
           clear s0
           refine Zz ?_
           refine BigFrame.wpQuiet_want (by rfl) (fun K hK => ?_)
           refine Yi Tryz.underlying57 Yr (.tmp 5) (by rfl) (w.heap.size+1) 0 cs (by rfl) HL.out (by rintro _ ⟨n,rfl⟩;exact ZT (XGn.out n)) (hK _ ?_)
           clear hK K
           simp only [Act.put,List.setIfInBounds_toArray,List.set_cons_succ,List.set_cons_zero]
           iterate 3 go_big_quiet_step (fail)
           go_big_quiet_step (((with_reducible refine (WT q.sz.length HN.out (HE.out.below (XBn.out _))).mono ?_);rw [S0.out];rintro e w1 ⟨rfl,hb⟩;exact ⟨rfl,⟨w1,Ze (WIn.ok _) hb⟩,rfl⟩))
           repeat (go_big_quiet_step (fail))
           refine wpQuiet_nil ?_
           intro n
           go_wp2_with fail
           go_ret
           exact ⟨Zt (ZeF N0.out H0.out F0.out O0.out S0.out).symm,XBn.out n⟩
         | true =>
           have S0:=Lib.hid s0
           clear s0
           refine Zz ?_
           refine BigFrame.wpQuiet_want (by rfl) (fun K hK => ?_)
           refine Yi Tryz.underlying57 Yr (.tmp 5) (by rfl) (w.heap.size+1) 0 cs (by rfl) HL.out (by rintro _ ⟨n,rfl⟩;exact ZT (XGn.out n)) (hK _ ?_)
           clear hK K
           simp only [Act.put,List.setIfInBounds_toArray,List.set_cons_succ,List.set_cons_zero]
           iterate 3 go_big_quiet_step (fail)
           go_big_quiet_step (((with_reducible refine (WT q.sz.length HN.out (HE.out.below (XBn.out _))).mono ?_);rw [S0.out];rintro e w1 ⟨rfl,hb⟩;exact ⟨rfl,⟨w1,Ze (WIn.ok _) hb⟩,rfl⟩))
           repeat (go_big_quiet_step (fail))
           refine wpQuiet_nil ?_
           intro n
           clear f2
           have VG:=Lib.hid (XGn.out n)
           have VP:=Lib.hid (XPn.out n)
           have VB:=Lib.hid (XBn.out n)
           generalize n.val=V at VG VP VB ⊢
           clear n
           have VGn:=Lib.hid (show ∀ n:WIn (Below V.heap.size V),n.val.heap[w.heap.size+1]? = some (.cells cs.toArray 57 (0,0)) from fun n=>keepB VG.out n.ok)
           have VPn:=Lib.hid (show ∀ n:WIn (Below V.heap.size V),n.val.heap[w.heap.size]? = some (.cells #[.string q.nm,.int .i64 q.top,.slice a2 q.sz.length c2,.slice a3 q.msgs.length c3,.slice a4 q.vals.length c4,.int .i64 q.fzz,v6,v7,v8,.slice (some ⟨b,off,none⟩) q.rz.length c9] 27 (0,0)) from fun n=>keepB VP.out n.ok)
           have VBn:=Lib.hid (show ∀ n:WIn (Below V.heap.size V),Below w.heap.size w n.val from fun n=>Ze VB.out n.ok)
           go_upto_region 8 with (fail)
           refine Zz ?_
           refine BigFrame.wpQuiet_want (by rfl) (fun K hK => ?_)
           refine Yi Tryz.underlying27 YK (.tmp 2) (by rfl) w.heap.size 0 [.string q.nm,.int .i64 q.top,.slice a2 q.sz.length c2,.slice a3 q.msgs.length c3,.slice a4 q.vals.length c4,.int .i64 q.fzz,v6,v7,v8,.slice (some ⟨b,off,none⟩) q.rz.length c9] (by rfl) (by rfl) (by rintro _ ⟨n,rfl⟩;exact ZT (VPn.out n)) (hK _ ?_)
           clear hK K
           simp only [Act.put,List.setIfInBounds_toArray,List.set_cons_succ,List.set_cons_zero]
           refine BigFrame.wpQuiet_want (by rfl) (fun K hK => ?_)
           refine Yi Tryz.underlying57 Yr (.tmp 5) (by rfl) (w.heap.size+1) 0 cs (by rfl) HL.out (by rintro _ ⟨n,rfl⟩;exact ZT (VGn.out n)) (hK _ ?_)
           clear hK K
           simp only [Act.put,List.setIfInBounds_toArray,List.set_cons_succ,List.set_cons_zero]
           go_big_quiet_step (((with_reducible refine (Zb6 (HQ.out.below (VBn.out _)) (HE.out.below (VBn.out _))).mono ?_);skip;rintro e w1 ⟨rfl,hb⟩;exact ⟨rfl,⟨w1,Ze (WIn.ok _) hb⟩,rfl⟩))
           repeat (go_big_quiet_step (fail))
           refine wpQuiet_nil ?_
           intro n
           go_wp2_with fail
           go_ret
           exact ⟨Zt (ruleE_part N0.out H0.out F0.out O0.out S0.out).symm,VBn.out n⟩
def lrgL (l:Ln):Bool := !smL l.c l.n l.t l.f
variable {k:Nat}
theorem any_succ {α:Type} {p:α→Bool} {xs:List α} (h:k<xs.length) (hk:(xs.take k).any p=false) (e:p xs[k]=false):(xs.take (k+1)).any p=false:=by
 rw [List.take_succ_eq_append_getElem h,List.any_append,hk];simpa using e
theorem any_yes {α:Type} {p:α→Bool} {xs:List α} (h:k<xs.length) (e:p xs[k]=true):xs.any p=true:=by
 rw [List.any_eq_true];exact ⟨xs[k],List.getElem_mem h,e⟩
theorem any_end {α:Type} {p:α→Bool} {xs:List α} (h:k=xs.length) (hk:(xs.take k).any p=false):xs.any p=false:=by
 rwa [List.take_of_length_le (by omega)] at hk
theorem lin_cells {b off n cap:Nat} {xs:List Ln} (h:IsSl 4 LnEl lo w (.slice (some ⟨b,off,none⟩) n cap) xs) (k:Nat) (hk:k<xs.length):w.cell? ⟨b,off+k*4,none⟩=some (.int .i64 xs[k].c)∧w.cell? ⟨b,off+k*4+1,none⟩=some (.int .i64 xs[k].n)∧w.cell? ⟨b,off+k*4+2,none⟩=some (.int .i64 xs[k].t)∧w.cell? ⟨b,off+k*4+3,none⟩=some (.int .i64 xs[k].f):=by
 obtain ⟨b',off',cs,ha,_,_,_,hc,hel⟩:=h.at k hk
 cases ha
 have h0:=hc 0 (by omega)
 have h1:=hc 1 (by omega)
 have h2:=hc 2 (by omega)
 have h3:=hc 3 (by omega)
 rw [hel.1] at h0 h1 h2 h3
 exact ⟨h0.trans rfl,h1.trans rfl,h2.trans rfl,h3.trans rfl⟩
theorem Zb7 {xs:List Ln} (h:IsSl 4 LnEl lo w v xs) :
 Calls Tryz.prog 103 #[v,.func (.func 76) #[] #[]] w fun e w'=>∃ i:Int,e = .returned (.int .i64 i)∧(decide (0≤i))=xs.any lrgL∧Below w.heap.size w w':=by
 have hn:=h.bound
 have H:=Lib.hid h
 rcases Ww h with ⟨rfl,a,c,rfl⟩ | ⟨b,off,c,rfl,hbw,_⟩
 ·clear h
  go_enter Tryz.func103,Tryz.ntmps103
  go_wp2_with fail
  refine wp_loop_rounds 1 ?_
  rw [rounds_succ]
  go_wp2_with fail
  go_ret
  exact ⟨-1,rfl,rfl,Below.refl _ _⟩
 generalize hN:xs.length=n at hn
 have HN:=Lib.hid hN
 rw [hN] at H
 clear h hN
 go_enter Tryz.func103,Tryz.ntmps103
 go_wp2_with fail
 go_loopw [8] (fun u wr=>∃ k:Nat,k≤n∧u = .int .i64 k∧(xs.take k).any lrgL=false∧Below w.heap.size w wr) (fun u _=>n-(intOf u).toNat)
 case atStart=>exact ⟨0,Nat.zero_le _,rfl,rfl,Below.refl _ _⟩
 case round =>
  obtain ⟨k,hk,rfl,hs,hB⟩:=hrel
  have HS:=Lib.hid hs
  have HB:=Lib.hid hB
  clear hs hB
  by_cases h1:k<n
  ·have hkx:k<xs.length:=by rw [HN.out];exact h1
   obtain ⟨g1,g2,g3,g4⟩:=lin_cells H.out k hkx
   have k1:=(HB.out.cell (p:=⟨b,off+k*4,none⟩) hbw).trans g1
   have k2:=(HB.out.cell (p:=⟨b,off+k*4+1,none⟩) hbw).trans g2
   have k3:=(HB.out.cell (p:=⟨b,off+k*4+2,none⟩) hbw).trans g3
   have k4:=(HB.out.cell (p:=⟨b,off+k*4+3,none⟩) hbw).trans g4
   have HYES:=Lib.hid (fun h=>any_yes (p:=lrgL) hkx h)
   have HNO:=Lib.hid (fun h=>any_succ (p:=lrgL) hkx HS.out h)
   generalize xs[k]=x at k1 k2 k3 k4 HYES HNO
   clear g1 g2 g3 g4
   cases he:smL x.c x.n x.t x.f with
   | false =>
     have HE:=Lib.hid he
     clear he
     go_wp2_with (go_at_call 76;(with_reducible refine (YF _ _ _ _ _).mono ?_);rw [HE.out];rintro e w1 ⟨rfl,hb1⟩;have HB1:=Lib.hid hb1;clear hb1)
     go_ret
     exact ⟨k,rfl,by rw [HYES.out (by unfold lrgL;rw [HE.out];rfl)];simp,Ze HB.out HB1.out⟩
   | true =>
     have HE:=Lib.hid he
     clear he
     go_wp2_with (go_at_call 76;(with_reducible refine (YF _ _ _ _ _).mono ?_);rw [HE.out];rintro e w1 ⟨rfl,hb1⟩;have HB1:=Lib.hid hb1;clear hb1)
     go_roundw
     case rel=>exact ⟨k+1,by omega,by go_num,HNO.out (by unfold lrgL;rw [HE.out];rfl),Ze HB.out HB1.out⟩
     case measure=>simp [intOf];omega
  have HE:=Lib.hid (any_end (by rw [HN.out];omega) HS.out)
  go_wp2_with fail
  go_ret
  exact ⟨-1,rfl,by rw [HE.out];rfl,HB.out⟩
theorem Y1 {xs:List Ln} (h:IsSl 4 LnEl lo w v xs) :
 Calls Tryz.prog 75 #[v,.func (.func 76) #[] #[]] w fun e w'=>e = .returned (.bool (xs.any fun l => !smL l.c l.n l.t l.f))∧Below w.heap.size w w':=by
 have HI:=Lib.hid (Zb7 h)
 clear h
 go_enter Tryz.func75,Tryz.ntmps75
 go_wp2_with (go_at_call 103;refine Calls.mono (show Calls _ _ _ _ _ from HI.out) ?_;rintro e w1 ⟨i,rfl,hi,hb⟩;have HI2:=Lib.hid hi;have HB:=Lib.hid hb;clear hi hb)
 go_ret
 exact ⟨Zi HI2.out,HB.out⟩
end Go.Proofs.YtdbehgbggaaipaaGreat
