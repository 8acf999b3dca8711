import Derived.Test.YtmpgnibfhjdfpaaGreatGrppoikgaho
import Derived.Test.YtmpgnibfhjdfpaaGreatGrpcdiljnim
import Derived.Test.YtmpgnibfhjdfpaaGreatGrpmgeggbob
set_option linter.all false
namespace Go.Proofs.YtmpgnibfhjdfpaaGreat
open Go.RowKit Go.Deep Tryz
set_option maxHeartbeats 12800000
theorem ZI {a b:Int} (h:orE a b=0):a=0/\b=0:=by
 unfold orE at h;split at h
 ·exact ⟨by assumption,h⟩
 exact absurd h (by assumption)
variable {q:Fm}{i:Nat}
theorem Wq {r:Ru} (h:ruleE q i r=0):r.gz.length<=2:=by
 unfold ruleE at h
 split at h
 ·cases h
 split at h
 ·cases h
 rename_i h2
 split at h
 ·cases h
 simp only [not_or,Bool.not_eq_false] at h2
 have hk:=Wu h2.1
 have he:=(Zfh r q.top hk).1 h2.2
 by_cases k1:r.kind=1
 ·unfold partE at h
  rw [if_neg (by omega),if_neg (by omega),if_pos k1] at h
  have h3:=(ZI h).1
  unfold guardE at h3
  split at h3
  ·split at h3
   ·cases h3
   omega
  exact absurd h3 (by assumption)
 rw [(he.g k1).1];simp
theorem ZbA (h:tooB q=false):q.rz.length<=8/\q.sz.length<=6/\q.msgs.length<=3/\q.vals.length<=3:=by
 unfold tooB at h
 simp only [Bool.or_eq_false_iff,decide_eq_false_iff_not] at h
 omega
variable {lo:Nat}{w:World}{v:Value}{xs:List ByteArray}
theorem KZ (h:IsSl 1 StrEl lo w v xs):∀ s∈xs,s.size<=maxLen:=by
 intro s hs
 obtain ⟨i,hi,rfl⟩:=List.getElem_of_mem hs
 obtain ⟨a,cap,rfl⟩:=h.shape
 obtain ⟨_,_,_,_,_,_,_,_,hel⟩:=h.at i hi
 exact hel.2
variable {X:Int}
theorem val_sets (h:orL [someE q.sz.length q.init,setE q.sz.length q.lz]≠0):orE (if q.init.length=0 then 1 else setE q.sz.length q.init) (orE (setE q.sz.length q.lz) X)=orL [someE q.sz.length q.init,setE q.sz.length q.lz]:=by
 show orE (someE q.sz.length q.init) _=_
 rw [orL_or,orL_or] at h ⊢
 rw [show orL []=0 from rfl,K6] at h ⊢
 by_cases h1:someE q.sz.length q.init=0
 ·rw [h1,ZD] at h ⊢
  rw [ZD,Ki _ h]
 rw [Ki _ h1,Ki _ h1]
theorem val_zero (h:orL [someE q.sz.length q.init,setE q.sz.length q.lz]=0):orE (if q.init.length=0 then 1 else setE q.sz.length q.init) (orE (setE q.sz.length q.lz) X)=X:=by
 show orE (someE q.sz.length q.init) _=_
 rw [orL_or,orL_or,show orL []=0 from rfl,K6] at h
 obtain ⟨h1,h2⟩:=ZI h
 rw [h1,h2,ZD,ZD]
theorem ZdJ {e X:Int} (h:orL [someE q.sz.length q.init,setE q.sz.length q.lz]=0) (hr:rulesE q 0 q.rz.length=e) (he:e≠0):orE (if q.init.length=0 then 1 else setE q.sz.length q.init) (orE (setE q.sz.length q.lz) (orE (rulesE q 0 q.rz.length) X))=e:=by
 rw [val_zero h,hr,Ki _ he]
theorem Zc7 (h:orL [someE q.sz.length q.init,setE q.sz.length q.lz]=0) (hr:rulesE q 0 q.rz.length=0):orE (if q.init.length=0 then 1 else setE q.sz.length q.init) (orE (setE q.sz.length q.lz) (orE (rulesE q 0 q.rz.length) X))=X:=by
 rw [val_zero h,hr,ZD]
theorem KH {α:Type} (a b c:List α):[a,b,c].flatten=a++(b++c):=by simp
theorem ZbB {lo g:Nat} {u1 u2 u3:Value} {xs ys zs:List ByteArray} {x1 x2 x3:Option Value} (h1:w.cell? ⟨g,0,none⟩=x1) (h2:w.cell? ⟨g,1,none⟩=x2) (h3:w.cell? ⟨g,2,none⟩=x3) (k1:IsSl 1 StrEl lo w u1 xs) (k2:IsSl 1 StrEl lo w u2 ys) (k3:IsSl 1 StrEl lo w u3 zs)
 (e1:x1=some u1:=by rfl) (e2:x2=some u2:=by rfl) (e3:x3=some u3:=by rfl) :
 ∀ i (hi:i<[xs,ys,zs].length),∃ u,w.cell? ⟨g,0+i,none⟩=some u/\IsSl 1 StrEl lo w u [xs,ys,zs][i]:=by
 intro i hi
 match i,hi with
 | 0,_=>exact ⟨u1,h1.trans e1,k1⟩
 | 1,_=>exact ⟨u2,h2.trans e2,k2⟩
 | 2,_=>exact ⟨u3,h3.trans e3,k3⟩
variable {n:Nat}
theorem ZbM (h:i<n) (hn:q.rz.length=n) (h0:ruleE q i (q.rz[i]'(by omega))=0):rulesE q i (n-i)=rulesE q (i+1) (n-(i+1)):=by
 rw [show n-i=(n-(i+1))+1 by omega,rulesE]
 have e:q.rz.getD i default=q.rz[i]'(by omega):=by simp [List.getD,List.getElem?_eq_getElem (show i<q.rz.length by omega)]
 rw [e,if_pos h0]
theorem ZbN (h:i<n) (hn:q.rz.length=n) (h0:ruleE q i (q.rz[i]'(by omega))≠0):rulesE q i (n-i)=ruleE q i (q.rz[i]'(by omega)):=by
 rw [show n-i=(n-(i+1))+1 by omega,rulesE]
 have e:q.rz.getD i default=q.rz[i]'(by omega):=by simp [List.getD,List.getElem?_eq_getElem (show i<q.rz.length by omega)]
 rw [e,if_neg h0]
set_option maxRecDepth 100000 in
theorem ZeU (hq:IsFam lo w v q) :
 Calls Tryz.prog 49 #[v] w λe w'=>e = .returned (.int .i64 (valE q))/\Below w.heap.size w w':=by
 have HQ:=Lib.hid hq
 obtain ⟨v2,v3,v4,v6,v7,v8,v9,rfl,hnm,_,h2,h3,h4,_,h6,h7,h8,h9⟩:=hq
 obtain ⟨a2,c2,rfl⟩:=h2.shape
 obtain ⟨a3,c3,rfl⟩:=h3.shape
 obtain ⟨a4,c4,rfl⟩:=h4.shape
 obtain ⟨a6,c6,rfl⟩:=h6.shape
 obtain ⟨a7,c7,rfl⟩:=h7.shape
 obtain ⟨a8,c8,rfl⟩:=h8.shape
 obtain ⟨a9,c9,rfl⟩:=h9.shape
 have HNM:=Lib.hid hnm
 have H2:=Lib.hid h2
 have H3:=Lib.hid h3
 have H4:=Lib.hid h4
 have H6:=Lib.hid h6
 have H7:=Lib.hid h7
 have H8:=Lib.hid h8
 have H9:=Lib.hid h9
 have HN:=Lib.hid h2.bound
 clear hnm h2 h3 h4 h6 h7 h8 h9
 go_enter func49,ntmps49
 go_upto_region 1 with (fail)
 obtain ⟨W,hW⟩:∃ W:World,W=w.alloc (.cells #[.string q.nm,.int .i64 q.top,.slice a2 q.sz.length c2,.slice a3 q.msgs.length c3,.slice a4 q.vals.length c4,.int .i64 q.fzz,.slice a6 q.res.length c6,.slice a7 q.init.length c7,.slice a8 q.lz.length c8,.slice a9 q.rz.length c9] 27):=⟨_,rfl⟩
 rw [<- hW]
 have WB:=Lib.hid (show Below w.heap.size w W by rw [hW];exact Zm _ _)
 have WP:=Lib.hid (show W.heap[w.heap.size]? = some (.cells #[.string q.nm,.int .i64 q.top,.slice a2 q.sz.length c2,.slice a3 q.msgs.length c3,.slice a4 q.vals.length c4,.int .i64 q.fzz,.slice a6 q.res.length c6,.slice a7 q.init.length c7,.slice a8 q.lz.length c8,.slice a9 q.rz.length c9] 27 (0,0)) by rw [hW];exact Kf _ _ rfl)
 clear hW
 have WPn:=Lib.hid (show ∀ n:WIn (Below W.heap.size W),n.val.heap[w.heap.size]? = some (.cells #[.string q.nm,.int .i64 q.top,.slice a2 q.sz.length c2,.slice a3 q.msgs.length c3,.slice a4 q.vals.length c4,.int .i64 q.fzz,.slice a6 q.res.length c6,.slice a7 q.init.length c7,.slice a8 q.lz.length c8,.slice a9 q.rz.length c9] 27 (0,0)) from λn=>keepB WP.out n.ok)
 have WBn:=Lib.hid (show ∀ n:WIn (Below W.heap.size W),Below w.heap.size w n.val from λn=>Zq WB.out n.ok)
 have x0:∀ n:WIn (Below W.heap.size W),n.val.cell? ⟨w.heap.size,0,none⟩=some (.string q.nm):=λn=>Yn (WPn.out n) 0 rfl
 go_upto_region 1 with (fail)
 cases en:nameB q.nm.toList with
 | false =>
   have En:=Lib.hid en
   clear en
   refine ZX ?_
   iterate 2 go_big_quiet_step (fail)
   go_big_quiet_step (((with_reducible refine (YI q.nm _ HNM.out).mono ?_);rw [En.out];rintro e w1 ⟨rfl,hb⟩;exact ⟨rfl,⟨w1,Zq (WIn.ok _) hb⟩,rfl⟩))
   repeat (go_big_quiet_step (fail))
   refine wpQuiet_nil ?_
   intro n
   go_wp2_with fail
   go_ret
   exact ⟨ZA (by unfold valE;rw [if_pos En.out]),WBn.out n⟩
 | true =>
   have En:=Lib.hid en
   clear en
   refine ZX ?_
   iterate 2 go_big_quiet_step (fail)
   go_big_quiet_step (((with_reducible refine (YI q.nm _ HNM.out).mono ?_);rw [En.out];rintro e w1 ⟨rfl,hb⟩;exact ⟨rfl,⟨w1,Zq (WIn.ok _) hb⟩,rfl⟩))
   repeat (go_big_quiet_step (fail))
   refine wpQuiet_nil ?_
   intro n
   clear x0
   have Z1P:=Lib.hid (WPn.out n)
   have Z1B:=Lib.hid (WBn.out n)
   generalize n.val=Z1 at Z1P Z1B ⊢
   clear n
   have Z1Pn:=Lib.hid (show ∀ n:WIn (Below Z1.heap.size Z1),n.val.heap[w.heap.size]? = some (.cells #[.string q.nm,.int .i64 q.top,.slice a2 q.sz.length c2,.slice a3 q.msgs.length c3,.slice a4 q.vals.length c4,.int .i64 q.fzz,.slice a6 q.res.length c6,.slice a7 q.init.length c7,.slice a8 q.lz.length c8,.slice a9 q.rz.length c9] 27 (0,0)) from λn=>keepB Z1P.out n.ok)
   have Z1Bn:=Lib.hid (show ∀ n:WIn (Below Z1.heap.size Z1),Below w.heap.size w n.val from λn=>Zq Z1B.out n.ok)
   have x1:∀ n:WIn (Below Z1.heap.size Z1),n.val.cell? ⟨w.heap.size,1,none⟩=some (.int .i64 q.top):=λn=>Yn (Z1Pn.out n) 1 rfl
   have x5:∀ n:WIn (Below Z1.heap.size Z1),n.val.cell? ⟨w.heap.size,5,none⟩=some (.int .i64 q.fzz):=λn=>Yn (Z1Pn.out n) 5 rfl
   go_upto_region 3 with (fail)
   cases et:inB 1 4 q.top with
   | false =>
     have Et:=Lib.hid et
     clear et
     refine ZX ?_
     iterate 2 go_big_quiet_step (fail)
     go_big_quiet_step (((with_reducible refine (Z4 q.top 1 4 _).mono ?_);rw [Et.out];rintro e w1 ⟨rfl,hb⟩;subst hb;exact ⟨rfl,⟨_,WIn.ok _⟩,rfl⟩))
     repeat (go_big_quiet_step (fail))
     refine wpQuiet_nil ?_
     intro n
     go_wp2_with fail
     go_ret
     exact ⟨ZA (by unfold valE;rw [if_neg (by rw [En.out];simp),if_pos (.inl Et.out)]),Z1Bn.out n⟩
   | true =>
     have Et:=Lib.hid et
     clear et
     cases ef:inB 0 3 q.fzz with
     | false =>
       have Ef:=Lib.hid ef
       clear ef
       refine ZX ?_
       iterate 2 go_big_quiet_step (fail)
       go_big_quiet_step (((with_reducible refine (Z4 q.top 1 4 _).mono ?_);rw [Et.out];rintro e w1 ⟨rfl,hb⟩;subst hb;exact ⟨rfl,⟨_,WIn.ok _⟩,rfl⟩))
       iterate 4 go_big_quiet_step (fail)
       go_big_quiet_step (((with_reducible refine (Z4 q.fzz 0 3 _).mono ?_);rw [Ef.out];rintro e w1 ⟨rfl,hb⟩;subst hb;exact ⟨rfl,⟨_,WIn.ok _⟩,rfl⟩))
       repeat (go_big_quiet_step (fail))
       refine wpQuiet_nil ?_
       intro n
       go_wp2_with fail
       go_ret
       exact ⟨ZA (by unfold valE;rw [if_neg (by rw [En.out];simp),if_pos (.inr Ef.out)]),Z1Bn.out n⟩
     | true =>
       have Ef:=Lib.hid ef
       clear ef
       refine ZX ?_
       iterate 2 go_big_quiet_step (fail)
       go_big_quiet_step (((with_reducible refine (Z4 q.top 1 4 _).mono ?_);rw [Et.out];rintro e w1 ⟨rfl,hb⟩;subst hb;exact ⟨rfl,⟨_,WIn.ok _⟩,rfl⟩))
       iterate 4 go_big_quiet_step (fail)
       go_big_quiet_step (((with_reducible refine (Z4 q.fzz 0 3 _).mono ?_);rw [Ef.out];rintro e w1 ⟨rfl,hb⟩;subst hb;exact ⟨rfl,⟨_,WIn.ok _⟩,rfl⟩))
       repeat (go_big_quiet_step (fail))
       refine wpQuiet_nil ?_
       intro n
       clear x1 x5
       have Z2P:=Lib.hid (Z1Pn.out n)
       have Z2B:=Lib.hid (Z1Bn.out n)
       generalize n.val=Z2 at Z2P Z2B ⊢
       clear n
       have y2:Z2.cell? ⟨w.heap.size,2,none⟩=some (.slice a2 q.sz.length c2):=Yn Z2P.out 2 rfl
       by_cases e0:q.sz.length=0
       ·have i0:(q.sz.length:Int)=0:=by omega
        have E0:=Lib.hid e0
        clear e0
        go_wp2_with fail
        go_ret
        exact ⟨ZA (by unfold valE;rw [if_neg (by rw [En.out];simp),if_neg (by rw [Et.out,Ef.out];simp),if_pos E0.out]),Z2B.out⟩
       have i0:((q.sz.length:Int)==0)=false:=by simpa using e0
       have E0:=Lib.hid e0
       clear e0
       go_upto_region 7 with (fail)
       clear y2 i0
       have Z2Pn:=Lib.hid (show ∀ n:WIn (Below Z2.heap.size Z2),n.val.heap[w.heap.size]? = some (.cells #[.string q.nm,.int .i64 q.top,.slice a2 q.sz.length c2,.slice a3 q.msgs.length c3,.slice a4 q.vals.length c4,.int .i64 q.fzz,.slice a6 q.res.length c6,.slice a7 q.init.length c7,.slice a8 q.lz.length c8,.slice a9 q.rz.length c9] 27 (0,0)) from λn=>keepB Z2P.out n.ok)
       have Z2Bn:=Lib.hid (show ∀ n:WIn (Below Z2.heap.size Z2),Below w.heap.size w n.val from λn=>Zq Z2B.out n.ok)
       go_upto_region 7 with (fail)
       cases eb:tooB q with
       | true =>
         have Eb:=Lib.hid eb
         clear eb
         refine ZX ?_
         refine BigFrame.wpQuiet_want (by rfl) (λK hK => ?_)
         refine KT underlying27 Ku (.tmp 1) (by rfl) w.heap.size 0 [.string q.nm,.int .i64 q.top,.slice a2 q.sz.length c2,.slice a3 q.msgs.length c3,.slice a4 q.vals.length c4,.int .i64 q.fzz,.slice a6 q.res.length c6,.slice a7 q.init.length c7,.slice a8 q.lz.length c8,.slice a9 q.rz.length c9] (by rfl) (by rfl) (by rintro _ ⟨n,rfl⟩;exact YX (Z2Pn.out n)) (hK _ ?_)
         clear hK K
         simp only [Act.put,List.setIfInBounds_toArray,List.set_cons_succ,List.set_cons_zero]
         go_big_quiet_step (((with_reducible refine (Zaa (HQ.out.below (Z2Bn.out _))).mono ?_);rw [Eb.out];rintro e w1 ⟨rfl,hb⟩;exact ⟨rfl,⟨w1,Zq (WIn.ok _) hb⟩,rfl⟩))
         repeat (go_big_quiet_step (fail))
         refine wpQuiet_nil ?_
         intro n
         go_wp2_with fail
         go_ret
         exact ⟨ZA (by unfold valE;rw [if_neg (by rw [En.out];simp),if_neg (by rw [Et.out,Ef.out];simp),if_neg E0.out,if_pos Eb.out]),Z2Bn.out n⟩
       | false =>
         have Eb:=Lib.hid eb
         clear eb
         refine ZX ?_
         refine BigFrame.wpQuiet_want (by rfl) (λK hK => ?_)
         refine KT underlying27 Ku (.tmp 1) (by rfl) w.heap.size 0 [.string q.nm,.int .i64 q.top,.slice a2 q.sz.length c2,.slice a3 q.msgs.length c3,.slice a4 q.vals.length c4,.int .i64 q.fzz,.slice a6 q.res.length c6,.slice a7 q.init.length c7,.slice a8 q.lz.length c8,.slice a9 q.rz.length c9] (by rfl) (by rfl) (by rintro _ ⟨n,rfl⟩;exact YX (Z2Pn.out n)) (hK _ ?_)
         clear hK K
         simp only [Act.put,List.setIfInBounds_toArray,List.set_cons_succ,List.set_cons_zero]
         go_big_quiet_step (((with_reducible refine (Zaa (HQ.out.below (Z2Bn.out _))).mono ?_);rw [Eb.out];rintro e w1 ⟨rfl,hb⟩;exact ⟨rfl,⟨w1,Zq (WIn.ok _) hb⟩,rfl⟩))
         repeat (go_big_quiet_step (fail))
         refine wpQuiet_nil ?_
         intro n
         have Z3P:=Lib.hid (Z2Pn.out n)
         have Z3B:=Lib.hid (Z2Bn.out n)
         generalize n.val=Z3 at Z3P Z3B ⊢
         clear n
         have TR:=Lib.hid (ZbA Eb.out)
         go_upto_region 9 with (fail)
         have y2:Z3.cell? ⟨w.heap.size,2,none⟩=some (.slice a2 q.sz.length c2):=Yn Z3P.out 2 rfl
         have y3:Z3.cell? ⟨w.heap.size,3,none⟩=some (.slice a3 q.msgs.length c3):=Yn Z3P.out 3 rfl
         have y4:Z3.cell? ⟨w.heap.size,4,none⟩=some (.slice a4 q.vals.length c4):=Yn Z3P.out 4 rfl
         cases em:nmOk (q.sz++(q.msgs++q.vals)) (q.sz++(q.msgs++q.vals)).length with
         | false =>
           have Em:=Lib.hid em
           clear em
           go_wp2_with (go_at_call 90;(refine (Zbh (lo:=lo) (k:=3) [q.sz,q.msgs,q.vals] (by rfl) (by omega) (by rw [KH,List.length_append,List.length_append];have:=TR.out;omega) (by simp) (by intro s hs;rw [KH,List.mem_append,List.mem_append] at hs;rcases hs with hs | hs | hs;exact KZ H2.out s hs;exact KZ H3.out s hs;exact KZ H4.out s hs) (ZbB (Yk Z3 _ _ 0 rfl) (Yk Z3 _ _ 1 rfl) (Yk Z3 _ _ 2 rfl) (H2.out.below StrEl.stays (Zq Z3B.out (Zm _ _))) (H3.out.below StrEl.stays (Zq Z3B.out (Zm _ _))) (H4.out.below StrEl.stays (Zq Z3B.out (Zm _ _))))).mono ?_);rw [KH,Em.out];rintro e w1 ⟨rfl,hb⟩;have HB1:=Lib.hid (Zq (Zm Z3 _) hb);clear hb)
           go_ret
           exact ⟨ZA (by unfold valE;rw [if_neg (by rw [En.out];simp),if_neg (by rw [Et.out,Ef.out];simp),if_neg E0.out,if_neg (by rw [Eb.out];simp),if_pos Em.out]),Zq Z3B.out HB1.out⟩
         | true =>
           have Em:=Lib.hid em
           clear em
           go_upto_region 11 with (go_at_call 90;(refine (Zbh (lo:=lo) (k:=3) [q.sz,q.msgs,q.vals] (by rfl) (by omega) (by rw [KH,List.length_append,List.length_append];have:=TR.out;omega) (by simp) (by intro s hs;rw [KH,List.mem_append,List.mem_append] at hs;rcases hs with hs | hs | hs;exact KZ H2.out s hs;exact KZ H3.out s hs;exact KZ H4.out s hs) (ZbB (Yk Z3 _ _ 0 rfl) (Yk Z3 _ _ 1 rfl) (Yk Z3 _ _ 2 rfl) (H2.out.below StrEl.stays (Zq Z3B.out (Zm _ _))) (H3.out.below StrEl.stays (Zq Z3B.out (Zm _ _))) (H4.out.below StrEl.stays (Zq Z3B.out (Zm _ _))))).mono ?_);rw [KH,Em.out];rintro e w1 ⟨rfl,hb⟩;have HB1:=Lib.hid (Zq (Zm Z3 _) hb);clear hb)
           have VP:=Lib.hid (keepB Z3P.out HB1.out)
           have VB:=Lib.hid (Zq Z3B.out HB1.out)
           generalize w1=V at VP VB ⊢
           clear y2 y3 y4
           have VPn:=Lib.hid (show ∀ n:WIn (Below V.heap.size V),n.val.heap[w.heap.size]? = some (.cells #[.string q.nm,.int .i64 q.top,.slice a2 q.sz.length c2,.slice a3 q.msgs.length c3,.slice a4 q.vals.length c4,.int .i64 q.fzz,.slice a6 q.res.length c6,.slice a7 q.init.length c7,.slice a8 q.lz.length c8,.slice a9 q.rz.length c9] 27 (0,0)) from λn=>keepB VP.out n.ok)
           have VBn:=Lib.hid (show ∀ n:WIn (Below V.heap.size V),Below w.heap.size w n.val from λn=>Zq VB.out n.ok)
           have x1:∀ n:WIn (Below V.heap.size V),n.val.cell? ⟨w.heap.size,1,none⟩=some (.int .i64 q.top):=λn=>Yn (VPn.out n) 1 rfl
           by_cases t1:q.top=1
           ·have t2:(q.top==1)=true:=by simp [t1]
            have t3:(q.top != 1)=false:=by simp [t1]
            have T1:=Lib.hid t1
            clear t1
            refine ZX ?_
            repeat (go_big_quiet_step (fail))
            refine wpQuiet_nil ?_
            intro n
            clear x1
            have V2P:=Lib.hid (VPn.out n)
            have V2B:=Lib.hid (VBn.out n)
            generalize n.val=V2 at V2P V2B ⊢
            clear n
            clear VP VB VPn VBn
            have V2Pn:=Lib.hid (show ∀ n:WIn (Below V2.heap.size V2),n.val.heap[w.heap.size]? = some (.cells #[.string q.nm,.int .i64 q.top,.slice a2 q.sz.length c2,.slice a3 q.msgs.length c3,.slice a4 q.vals.length c4,.int .i64 q.fzz,.slice a6 q.res.length c6,.slice a7 q.init.length c7,.slice a8 q.lz.length c8,.slice a9 q.rz.length c9] 27 (0,0)) from λn=>keepB V2P.out n.ok)
            have V2Bn:=Lib.hid (show ∀ n:WIn (Below V2.heap.size V2),Below w.heap.size w n.val from λn=>Zq V2B.out n.ok)
            have x1:∀ n:WIn (Below V2.heap.size V2),n.val.cell? ⟨w.heap.size,1,none⟩=some (.int .i64 q.top):=λn=>Yn (V2Pn.out n) 1 rfl
            have x8:∀ n:WIn (Below V2.heap.size V2),n.val.cell? ⟨w.heap.size,8,none⟩=some (.slice a8 q.lz.length c8):=λn=>Yn (V2Pn.out n) 8 rfl
            go_upto_region 12 with (fail)
            by_cases hl:0<q.lz.length
            ·have hl1:(0:Int)<(q.lz.length:Int):=by omega
             refine ZX ?_
             repeat (go_big_quiet_step (fail))
             refine wpQuiet_nil ?_
             intro n
             go_wp2_with fail
             go_ret
             exact ⟨ZA (by unfold valE;rw [if_neg (by rw [En.out];simp),if_neg (by rw [Et.out,Ef.out];simp),if_neg E0.out,if_neg (by rw [Eb.out];simp),if_neg (by rw [Em.out];simp),if_pos (.inr ⟨T1.out,hl⟩)]),V2Bn.out n⟩
            have hl1:¬ (0:Int)<(q.lz.length:Int):=by omega
            refine ZX ?_
            repeat (go_big_quiet_step (fail))
            refine wpQuiet_nil ?_
            intro n
            have HLL:=Lib.hid hl
            clear x1 x8 hl1 hl t2 t3
            have VP:=Lib.hid (V2Pn.out n)
            have VB:=Lib.hid (V2Bn.out n)
            generalize n.val=V at VP VB ⊢
            clear n
            clear V2P V2B V2Pn V2Bn
            have VPn:=Lib.hid (show ∀ n:WIn (Below V.heap.size V),n.val.heap[w.heap.size]? = some (.cells #[.string q.nm,.int .i64 q.top,.slice a2 q.sz.length c2,.slice a3 q.msgs.length c3,.slice a4 q.vals.length c4,.int .i64 q.fzz,.slice a6 q.res.length c6,.slice a7 q.init.length c7,.slice a8 q.lz.length c8,.slice a9 q.rz.length c9] 27 (0,0)) from λn=>keepB VP.out n.ok)
            have VBn:=Lib.hid (show ∀ n:WIn (Below V.heap.size V),Below w.heap.size w n.val from λn=>Zq VB.out n.ok)
            have x6:∀ n:WIn (Below V.heap.size V),n.val.cell? ⟨w.heap.size,6,none⟩=some (.slice a6 q.res.length c6):=λn=>Yn (VPn.out n) 6 rfl
            go_upto_region 14 with (fail)
            cases er:(q.res.any λl => !smL l.c l.n l.t l.f) with
            | true =>
              have Er:=Lib.hid er
              clear er
              refine ZX ?_
              iterate 2 go_big_quiet_step (fail)
              go_big_quiet_step (((with_reducible refine (YZ (H6.out.below LnEl.stays (VBn.out _))).mono ?_);rw [Er.out];rintro e w1 ⟨rfl,hb⟩;exact ⟨rfl,⟨w1,Zq (WIn.ok _) hb⟩,rfl⟩))
              repeat (go_big_quiet_step (fail))
              refine wpQuiet_nil ?_
              intro n
              go_wp2_with fail
              go_ret
              exact ⟨ZA (by unfold valE;rw [if_neg (by rw [En.out];simp),if_neg (by rw [Et.out,Ef.out];simp),if_neg E0.out,if_neg (by rw [Eb.out];simp),if_neg (by rw [Em.out];simp),if_neg (by rintro (h | h);exact h.1 T1.out;exact HLL.out h.2),if_pos Er.out]),VBn.out n⟩
            | false =>
              have Er:=Lib.hid er
              clear er
              refine ZX ?_
              iterate 2 go_big_quiet_step (fail)
              go_big_quiet_step (((with_reducible refine (YZ (H6.out.below LnEl.stays (VBn.out _))).mono ?_);rw [Er.out];rintro e w1 ⟨rfl,hb⟩;exact ⟨rfl,⟨w1,Zq (WIn.ok _) hb⟩,rfl⟩))
              repeat (go_big_quiet_step (fail))
              refine wpQuiet_nil ?_
              intro n
              clear x6
              have UP:=Lib.hid (VPn.out n)
              have UB:=Lib.hid (VBn.out n)
              generalize n.val=U at UP UB ⊢
              clear n
              have UPn:=Lib.hid (show ∀ n:WIn (Below U.heap.size U),n.val.heap[w.heap.size]? = some (.cells #[.string q.nm,.int .i64 q.top,.slice a2 q.sz.length c2,.slice a3 q.msgs.length c3,.slice a4 q.vals.length c4,.int .i64 q.fzz,.slice a6 q.res.length c6,.slice a7 q.init.length c7,.slice a8 q.lz.length c8,.slice a9 q.rz.length c9] 27 (0,0)) from λn=>keepB UP.out n.ok)
              have UBn:=Lib.hid (show ∀ n:WIn (Below U.heap.size U),Below w.heap.size w n.val from λn=>Zq UB.out n.ok)
              have x2:∀ n:WIn (Below U.heap.size U),n.val.cell? ⟨w.heap.size,2,none⟩=some (.slice a2 q.sz.length c2):=λn=>Yn (UPn.out n) 2 rfl
              have x7:∀ n:WIn (Below U.heap.size U),n.val.cell? ⟨w.heap.size,7,none⟩=some (.slice a7 q.init.length c7):=λn=>Yn (UPn.out n) 7 rfl
              have x8:∀ n:WIn (Below U.heap.size U),n.val.cell? ⟨w.heap.size,8,none⟩=some (.slice a8 q.lz.length c8):=λn=>Yn (UPn.out n) 8 rfl
              go_upto_region 16 with (fail)
              refine Zbt 12 (by kernel_rfl) (by kernel_rfl) ?_
              simp only [List.take_succ_cons,List.take_zero]
              iterate 5 go_big_quiet_step (fail)
              go_big_quiet_step (((with_reducible refine ((Kv q.sz.length HN.out (H7.out.below (UBn.out _)))).mono ?_);skip;rintro e w1 ⟨rfl,hb⟩;exact ⟨rfl,⟨w1,Zq (WIn.ok _) hb⟩,rfl⟩))
              iterate 5 go_big_quiet_step (fail)
              go_big_quiet_step (((with_reducible refine ((Ks q.sz.length HN.out (H8.out.below (UBn.out _)))).mono ?_);skip;rintro e w1 ⟨rfl,hb⟩;exact ⟨rfl,⟨w1,Zq (WIn.ok _) hb⟩,rfl⟩))
              refine wpQuiet_nil ?_
              intro m
              simp only [List.drop_succ_cons,List.drop_zero]
              clear x2 x7 x8
              by_cases eo:orL [someE q.sz.length q.init,setE q.sz.length q.lz]=0
              ·have Eo:=Lib.hid eo
               have MP:=Lib.hid (UPn.out m)
               have MB:=Lib.hid (UBn.out m)
               go_upto_region 17 with (go_at_call 94;refine (ZaN [someE q.sz.length q.init,setE q.sz.length q.lz] (by exact Kf m.val _ rfl) (by rfl) (by rfl) (by simp)).mono ?_;rintro e w1 ⟨rfl,rfl⟩)
               clear eo
               have SP:=Lib.hid (keepB MP.out (Zm m.val (.cells #[.int .i64 (someE q.sz.length q.init),.int .i64 (setE q.sz.length q.lz)] 51)))
               have SB:=Lib.hid (Zq MB.out (Zm m.val (.cells #[.int .i64 (someE q.sz.length q.init),.int .i64 (setE q.sz.length q.lz)] 51)))
               generalize m.val.alloc (.cells #[.int .i64 (someE q.sz.length q.init),.int .i64 (setE q.sz.length q.lz)] 51)=S at SP SB ⊢
               have s9:S.cell? ⟨w.heap.size,9,none⟩=some (.slice a9 q.rz.length c9):=Yn SP.out 9 rfl
               generalize hn:q.rz.length=n at s9
               have HRN:=Lib.hid hn
               clear hn
               go_wp2_with fail
               go_loopw [81] (λu wr=>∃ i:Nat,i<=n/\u = .int .i64 i/\(∀ j (hj:j<q.rz.length),j<i->ruleE q j q.rz[j]=0)/\rulesE q 0 n=rulesE q i (n-i)/\wr.heap[w.heap.size]? = some (.cells #[.string q.nm,.int .i64 q.top,.slice a2 q.sz.length c2,.slice a3 q.msgs.length c3,.slice a4 q.vals.length c4,.int .i64 q.fzz,.slice a6 q.res.length c6,.slice a7 q.init.length c7,.slice a8 q.lz.length c8,.slice a9 q.rz.length c9] 27 (0,0))/\Below w.heap.size w wr) (λu _=>n-(intOf u).toNat)
               case atStart=>exact ⟨0,Nat.zero_le _,rfl,λ_ _ h=>absurd h (by omega),rfl,SP.out,SB.out⟩
               case round =>
                obtain ⟨i,hi,rfl,hz,hre,hP,hB⟩:=hrel
                obtain ⟨R,hR⟩:∃ R:World,R=wr:=⟨_,rfl⟩
                rw [<- hR] at hP hB ⊢
                clear hR
                have HZ:=Lib.hid hz
                have HRE:=Lib.hid hre
                have RP:=Lib.hid hP
                have RB:=Lib.hid hB
                clear hz hre hP hB
                by_cases h1:i<n
                ·have hix:i<q.rz.length:=by rw [HRN.out];exact h1
                 have hi8:i<8:=by have:=TR.out;omega
                 go_upto_region 22 with (fail)
                 have RPn:=Lib.hid (show ∀ n:WIn (Below R.heap.size R),n.val.heap[w.heap.size]? = some (.cells #[.string q.nm,.int .i64 q.top,.slice a2 q.sz.length c2,.slice a3 q.msgs.length c3,.slice a4 q.vals.length c4,.int .i64 q.fzz,.slice a6 q.res.length c6,.slice a7 q.init.length c7,.slice a8 q.lz.length c8,.slice a9 q.rz.length c9] 27 (0,0)) from λn=>keepB RP.out n.ok)
                 have RBn:=Lib.hid (show ∀ n:WIn (Below R.heap.size R),Below w.heap.size w n.val from λn=>Zq RB.out n.ok)
                 by_cases er:ruleE q i q.rz[i]=0
                 ·have Er0:=Lib.hid er
                  clear er
                  refine ZX ?_
                  refine BigFrame.wpQuiet_want (by rfl) (λK hK => ?_)
                  refine KT underlying27 Ku (.tmp 1) (by rfl) w.heap.size 0 [.string q.nm,.int .i64 q.top,.slice a2 q.sz.length c2,.slice a3 q.msgs.length c3,.slice a4 q.vals.length c4,.int .i64 q.fzz,.slice a6 q.res.length c6,.slice a7 q.init.length c7,.slice a8 q.lz.length c8,.slice a9 q.rz.length c9] (by rfl) (by rfl) (by rintro _ ⟨n,rfl⟩;exact YX (RPn.out n)) (hK _ ?_)
                  clear hK K
                  simp only [Act.put,List.setIfInBounds_toArray,List.set_cons_succ,List.set_cons_zero]
                  iterate 1 go_big_quiet_step (fail)
                  go_big_quiet_step (((with_reducible refine (KE i hix (HQ.out.below (RBn.out _))).mono ?_);rw [Er0.out];rintro e w1 ⟨rfl,hb⟩;exact ⟨rfl,⟨w1,Zq (WIn.ok _) hb⟩,rfl⟩))
                  repeat (go_big_quiet_step (fail))
                  refine wpQuiet_nil ?_
                  intro N
                  have TP:=Lib.hid (RPn.out N)
                  have TB:=Lib.hid (RBn.out N)
                  go_wp2_with fail
                  go_roundw
                  case rel =>
                   refine ⟨i+1,by omega,by go_num,λj hj hji => ?_,by rw [HRE.out];exact ZbM h1 HRN.out Er0.out,TP.out,TB.out⟩
                   by_cases hj2:j<i
                   ·exact HZ.out j hj hj2
                   obtain rfl:j=i:=by omega
                   exact Er0.out
                  case measure=>simp [intOf];omega
                 have Er0:=Lib.hid er
                 have er1:(ruleE q i q.rz[i] != 0)=true:=by simpa using er
                 clear er
                 refine ZX ?_
                 refine BigFrame.wpQuiet_want (by rfl) (λK hK => ?_)
                 refine KT underlying27 Ku (.tmp 1) (by rfl) w.heap.size 0 [.string q.nm,.int .i64 q.top,.slice a2 q.sz.length c2,.slice a3 q.msgs.length c3,.slice a4 q.vals.length c4,.int .i64 q.fzz,.slice a6 q.res.length c6,.slice a7 q.init.length c7,.slice a8 q.lz.length c8,.slice a9 q.rz.length c9] (by rfl) (by rfl) (by rintro _ ⟨n,rfl⟩;exact YX (RPn.out n)) (hK _ ?_)
                 clear hK K
                 simp only [Act.put,List.setIfInBounds_toArray,List.set_cons_succ,List.set_cons_zero]
                 iterate 1 go_big_quiet_step (fail)
                 go_big_quiet_step (((with_reducible refine (KE i hix (HQ.out.below (RBn.out _))).mono ?_);skip;rintro e w1 ⟨rfl,hb⟩;exact ⟨rfl,⟨w1,Zq (WIn.ok _) hb⟩,rfl⟩))
                 repeat (go_big_quiet_step (fail))
                 refine wpQuiet_nil ?_
                 intro N
                 go_wp2_with fail
                 go_ret
                 exact ⟨ZA (by unfold valE;rw [if_neg (by rw [En.out];simp),if_neg (by rw [Et.out,Ef.out];simp),if_neg E0.out,if_neg (by rw [Eb.out];simp),if_neg (by rw [Em.out];simp),if_neg (by rintro (h | h);exact h.1 T1.out;exact HLL.out h.2),if_neg (by rw [Er.out];simp)];exact (ZdJ Eo.out (by rw [HRN.out,HRE.out];exact ZbN h1 HRN.out Er0.out) Er0.out).symm),RBn.out N⟩
                obtain rfl:i=n:=by omega
                have HALL:=Lib.hid (show ∀ r∈q.rz,r.gz.length<=2 from λr hr=>by obtain ⟨j,hj,rfl⟩:=List.getElem_of_mem hr;exact Wq (HZ.out j hj (by rw [<- HRN.out];exact hj)))
                have HR0:=Lib.hid (show rulesE q 0 q.rz.length=0 by rw [HRN.out,HRE.out,Nat.sub_self];rfl)
                have r9:R.cell? ⟨w.heap.size,9,none⟩=some (.slice a9 i c9):=by have:=Yn RP.out 9 (v := .slice a9 q.rz.length c9) rfl;rwa [HRN.out] at this
                have H9i:=Lib.hid (show IsSl 18 RuEl lo R (.slice a9 i c9) q.rz by have:=H9.out.below RuEl.stays RB.out;rwa [HRN.out] at this)
                by_cases hd:3<(diffG q.rz).length
                ·have hd1:(3:Int)<(((diffG q.rz).length:Nat):Int):=by omega
                 go_wp2_with (go_at_call 96;(with_reducible refine (YG H9i.out (by have:=TR.out;omega) HALL.out).mono ?_);rintro e w1 ⟨v',rfl,hO,hb⟩;obtain ⟨av,cv,rfl⟩:=K4 hO.1;have HB1:=Lib.hid (Zq RB.out hb);clear hb hO)
                 go_ret
                 exact ⟨ZA (by unfold valE;rw [if_neg (by rw [En.out];simp),if_neg (by rw [Et.out,Ef.out];simp),if_neg E0.out,if_neg (by rw [Eb.out];simp),if_neg (by rw [Em.out];simp),if_neg (by rintro (h | h);exact h.1 T1.out;exact HLL.out h.2),if_neg (by rw [Er.out];simp)];exact (Zc7 Eo.out HR0.out).trans (if_pos hd) |>.symm),HB1.out⟩
                have hd1:¬ (3:Int)<(((diffG q.rz).length:Nat):Int):=by omega
                go_wp2_with (go_at_call 96;(with_reducible refine (YG H9i.out (by have:=TR.out;omega) HALL.out).mono ?_);rintro e w1 ⟨v',rfl,hO,hb⟩;obtain ⟨av,cv,rfl⟩:=K4 hO.1;have HB1:=Lib.hid (Zq RB.out hb);clear hb hO)
                go_ret
                exact ⟨ZA (by unfold valE;rw [if_neg (by rw [En.out];simp),if_neg (by rw [Et.out,Ef.out];simp),if_neg E0.out,if_neg (by rw [Eb.out];simp),if_neg (by rw [Em.out];simp),if_neg (by rintro (h | h);exact h.1 T1.out;exact HLL.out h.2),if_neg (by rw [Er.out];simp)];exact (Zc7 Eo.out HR0.out).trans (if_neg hd) |>.symm),HB1.out⟩
              have eo1:(orL [someE q.sz.length q.init,setE q.sz.length q.lz] != 0)=true:=by simpa using eo
              have Eo:=Lib.hid eo
              have MB:=Lib.hid (UBn.out m)
              clear eo
              go_wp2_with (go_at_call 94;refine (ZaN [someE q.sz.length q.init,setE q.sz.length q.lz] (by exact Kf m.val _ rfl) (by rfl) (by rfl) (by simp)).mono ?_;rintro e w1 ⟨rfl,rfl⟩)
              go_ret
              exact ⟨ZA (by unfold valE;rw [if_neg (by rw [En.out];simp),if_neg (by rw [Et.out,Ef.out];simp),if_neg E0.out,if_neg (by rw [Eb.out];simp),if_neg (by rw [Em.out];simp),if_neg (by rintro (h | h);exact h.1 T1.out;exact HLL.out h.2),if_neg (by rw [Er.out];simp)];exact (val_sets Eo.out).symm),Zq MB.out (Zm m.val _)⟩
           have t2:(q.top==1)=false:=by simp [t1]
           have t3:(q.top != 1)=true:=by simpa using t1
           have T1:=Lib.hid t1
           clear t1
           cases ec:cliB q with
           | true =>
             have Ec:=Lib.hid ec
             clear ec
             refine ZX ?_
             iterate 4 go_big_quiet_step (fail)
             refine BigFrame.wpQuiet_want (by rfl) (λK hK => ?_)
             refine KT underlying27 Ku (.tmp 1) (by rfl) w.heap.size 0 [.string q.nm,.int .i64 q.top,.slice a2 q.sz.length c2,.slice a3 q.msgs.length c3,.slice a4 q.vals.length c4,.int .i64 q.fzz,.slice a6 q.res.length c6,.slice a7 q.init.length c7,.slice a8 q.lz.length c8,.slice a9 q.rz.length c9] (by rfl) (by rfl) (by rintro _ ⟨n,rfl⟩;exact YX (VPn.out n)) (hK _ ?_)
             clear hK K
             simp only [Act.put,List.setIfInBounds_toArray,List.set_cons_succ,List.set_cons_zero]
             go_big_quiet_step (((with_reducible refine (KW (HQ.out.below (VBn.out _))).mono ?_);rw [Ec.out];rintro e w1 ⟨rfl,hb⟩;exact ⟨rfl,⟨w1,Zq (WIn.ok _) hb⟩,rfl⟩))
             repeat (go_big_quiet_step (fail))
             refine wpQuiet_nil ?_
             intro n
             go_wp2_with fail
             go_ret
             exact ⟨ZA (by unfold valE;rw [if_neg (by rw [En.out];simp),if_neg (by rw [Et.out,Ef.out];simp),if_neg E0.out,if_neg (by rw [Eb.out];simp),if_neg (by rw [Em.out];simp),if_pos (.inl ⟨T1.out,Ec.out⟩)]),VBn.out n⟩
           | false =>
             have Ec:=Lib.hid ec
             clear ec
             refine ZX ?_
             iterate 4 go_big_quiet_step (fail)
             refine BigFrame.wpQuiet_want (by rfl) (λK hK => ?_)
             refine KT underlying27 Ku (.tmp 1) (by rfl) w.heap.size 0 [.string q.nm,.int .i64 q.top,.slice a2 q.sz.length c2,.slice a3 q.msgs.length c3,.slice a4 q.vals.length c4,.int .i64 q.fzz,.slice a6 q.res.length c6,.slice a7 q.init.length c7,.slice a8 q.lz.length c8,.slice a9 q.rz.length c9] (by rfl) (by rfl) (by rintro _ ⟨n,rfl⟩;exact YX (VPn.out n)) (hK _ ?_)
             clear hK K
             simp only [Act.put,List.setIfInBounds_toArray,List.set_cons_succ,List.set_cons_zero]
             go_big_quiet_step (((with_reducible refine (KW (HQ.out.below (VBn.out _))).mono ?_);rw [Ec.out];rintro e w1 ⟨rfl,hb⟩;exact ⟨rfl,⟨w1,Zq (WIn.ok _) hb⟩,rfl⟩))
             repeat (go_big_quiet_step (fail))
             refine wpQuiet_nil ?_
             intro n
             clear x1
             have V2P:=Lib.hid (VPn.out n)
             have V2B:=Lib.hid (VBn.out n)
             generalize n.val=V2 at V2P V2B ⊢
             clear n
             clear VP VB VPn VBn
             have V2Pn:=Lib.hid (show ∀ n:WIn (Below V2.heap.size V2),n.val.heap[w.heap.size]? = some (.cells #[.string q.nm,.int .i64 q.top,.slice a2 q.sz.length c2,.slice a3 q.msgs.length c3,.slice a4 q.vals.length c4,.int .i64 q.fzz,.slice a6 q.res.length c6,.slice a7 q.init.length c7,.slice a8 q.lz.length c8,.slice a9 q.rz.length c9] 27 (0,0)) from λn=>keepB V2P.out n.ok)
             have V2Bn:=Lib.hid (show ∀ n:WIn (Below V2.heap.size V2),Below w.heap.size w n.val from λn=>Zq V2B.out n.ok)
             have x1:∀ n:WIn (Below V2.heap.size V2),n.val.cell? ⟨w.heap.size,1,none⟩=some (.int .i64 q.top):=λn=>Yn (V2Pn.out n) 1 rfl
             go_upto_region 12 with (fail)
             refine ZX ?_
             repeat (go_big_quiet_step (fail))
             refine wpQuiet_nil ?_
             intro n
             clear x1 t2 t3
             have VP:=Lib.hid (V2Pn.out n)
             have VB:=Lib.hid (V2Bn.out n)
             generalize n.val=V at VP VB ⊢
             clear n
             clear V2P V2B V2Pn V2Bn
             have VPn:=Lib.hid (show ∀ n:WIn (Below V.heap.size V),n.val.heap[w.heap.size]? = some (.cells #[.string q.nm,.int .i64 q.top,.slice a2 q.sz.length c2,.slice a3 q.msgs.length c3,.slice a4 q.vals.length c4,.int .i64 q.fzz,.slice a6 q.res.length c6,.slice a7 q.init.length c7,.slice a8 q.lz.length c8,.slice a9 q.rz.length c9] 27 (0,0)) from λn=>keepB VP.out n.ok)
             have VBn:=Lib.hid (show ∀ n:WIn (Below V.heap.size V),Below w.heap.size w n.val from λn=>Zq VB.out n.ok)
             have x6:∀ n:WIn (Below V.heap.size V),n.val.cell? ⟨w.heap.size,6,none⟩=some (.slice a6 q.res.length c6):=λn=>Yn (VPn.out n) 6 rfl
             go_upto_region 14 with (fail)
             cases er:(q.res.any λl => !smL l.c l.n l.t l.f) with
             | true =>
               have Er:=Lib.hid er
               clear er
               refine ZX ?_
               iterate 2 go_big_quiet_step (fail)
               go_big_quiet_step (((with_reducible refine (YZ (H6.out.below LnEl.stays (VBn.out _))).mono ?_);rw [Er.out];rintro e w1 ⟨rfl,hb⟩;exact ⟨rfl,⟨w1,Zq (WIn.ok _) hb⟩,rfl⟩))
               repeat (go_big_quiet_step (fail))
               refine wpQuiet_nil ?_
               intro n
               go_wp2_with fail
               go_ret
               exact ⟨ZA (by unfold valE;rw [if_neg (by rw [En.out];simp),if_neg (by rw [Et.out,Ef.out];simp),if_neg E0.out,if_neg (by rw [Eb.out];simp),if_neg (by rw [Em.out];simp),if_neg (by rintro (h | h);exact absurd h.2 (by rw [Ec.out];simp);exact T1.out h.1),if_pos Er.out]),VBn.out n⟩
             | false =>
               have Er:=Lib.hid er
               clear er
               refine ZX ?_
               iterate 2 go_big_quiet_step (fail)
               go_big_quiet_step (((with_reducible refine (YZ (H6.out.below LnEl.stays (VBn.out _))).mono ?_);rw [Er.out];rintro e w1 ⟨rfl,hb⟩;exact ⟨rfl,⟨w1,Zq (WIn.ok _) hb⟩,rfl⟩))
               repeat (go_big_quiet_step (fail))
               refine wpQuiet_nil ?_
               intro n
               clear x6
               have UP:=Lib.hid (VPn.out n)
               have UB:=Lib.hid (VBn.out n)
               generalize n.val=U at UP UB ⊢
               clear n
               have UPn:=Lib.hid (show ∀ n:WIn (Below U.heap.size U),n.val.heap[w.heap.size]? = some (.cells #[.string q.nm,.int .i64 q.top,.slice a2 q.sz.length c2,.slice a3 q.msgs.length c3,.slice a4 q.vals.length c4,.int .i64 q.fzz,.slice a6 q.res.length c6,.slice a7 q.init.length c7,.slice a8 q.lz.length c8,.slice a9 q.rz.length c9] 27 (0,0)) from λn=>keepB UP.out n.ok)
               have UBn:=Lib.hid (show ∀ n:WIn (Below U.heap.size U),Below w.heap.size w n.val from λn=>Zq UB.out n.ok)
               have x2:∀ n:WIn (Below U.heap.size U),n.val.cell? ⟨w.heap.size,2,none⟩=some (.slice a2 q.sz.length c2):=λn=>Yn (UPn.out n) 2 rfl
               have x7:∀ n:WIn (Below U.heap.size U),n.val.cell? ⟨w.heap.size,7,none⟩=some (.slice a7 q.init.length c7):=λn=>Yn (UPn.out n) 7 rfl
               have x8:∀ n:WIn (Below U.heap.size U),n.val.cell? ⟨w.heap.size,8,none⟩=some (.slice a8 q.lz.length c8):=λn=>Yn (UPn.out n) 8 rfl
               go_upto_region 16 with (fail)
               refine Zbt 12 (by kernel_rfl) (by kernel_rfl) ?_
               simp only [List.take_succ_cons,List.take_zero]
               iterate 5 go_big_quiet_step (fail)
               go_big_quiet_step (((with_reducible refine ((Kv q.sz.length HN.out (H7.out.below (UBn.out _)))).mono ?_);skip;rintro e w1 ⟨rfl,hb⟩;exact ⟨rfl,⟨w1,Zq (WIn.ok _) hb⟩,rfl⟩))
               iterate 5 go_big_quiet_step (fail)
               go_big_quiet_step (((with_reducible refine ((Ks q.sz.length HN.out (H8.out.below (UBn.out _)))).mono ?_);skip;rintro e w1 ⟨rfl,hb⟩;exact ⟨rfl,⟨w1,Zq (WIn.ok _) hb⟩,rfl⟩))
               refine wpQuiet_nil ?_
               intro m
               simp only [List.drop_succ_cons,List.drop_zero]
               clear x2 x7 x8
               by_cases eo:orL [someE q.sz.length q.init,setE q.sz.length q.lz]=0
               ·have Eo:=Lib.hid eo
                have MP:=Lib.hid (UPn.out m)
                have MB:=Lib.hid (UBn.out m)
                go_upto_region 17 with (go_at_call 94;refine (ZaN [someE q.sz.length q.init,setE q.sz.length q.lz] (by exact Kf m.val _ rfl) (by rfl) (by rfl) (by simp)).mono ?_;rintro e w1 ⟨rfl,rfl⟩)
                clear eo
                have SP:=Lib.hid (keepB MP.out (Zm m.val (.cells #[.int .i64 (someE q.sz.length q.init),.int .i64 (setE q.sz.length q.lz)] 51)))
                have SB:=Lib.hid (Zq MB.out (Zm m.val (.cells #[.int .i64 (someE q.sz.length q.init),.int .i64 (setE q.sz.length q.lz)] 51)))
                generalize m.val.alloc (.cells #[.int .i64 (someE q.sz.length q.init),.int .i64 (setE q.sz.length q.lz)] 51)=S at SP SB ⊢
                have s9:S.cell? ⟨w.heap.size,9,none⟩=some (.slice a9 q.rz.length c9):=Yn SP.out 9 rfl
                generalize hn:q.rz.length=n at s9
                have HRN:=Lib.hid hn
                clear hn
                go_wp2_with fail
                go_loopw [81] (λu wr=>∃ i:Nat,i<=n/\u = .int .i64 i/\(∀ j (hj:j<q.rz.length),j<i->ruleE q j q.rz[j]=0)/\rulesE q 0 n=rulesE q i (n-i)/\wr.heap[w.heap.size]? = some (.cells #[.string q.nm,.int .i64 q.top,.slice a2 q.sz.length c2,.slice a3 q.msgs.length c3,.slice a4 q.vals.length c4,.int .i64 q.fzz,.slice a6 q.res.length c6,.slice a7 q.init.length c7,.slice a8 q.lz.length c8,.slice a9 q.rz.length c9] 27 (0,0))/\Below w.heap.size w wr) (λu _=>n-(intOf u).toNat)
                case atStart=>exact ⟨0,Nat.zero_le _,rfl,λ_ _ h=>absurd h (by omega),rfl,SP.out,SB.out⟩
                case round =>
                 obtain ⟨i,hi,rfl,hz,hre,hP,hB⟩:=hrel
                 obtain ⟨R,hR⟩:∃ R:World,R=wr:=⟨_,rfl⟩
                 rw [<- hR] at hP hB ⊢
                 clear hR
                 have HZ:=Lib.hid hz
                 have HRE:=Lib.hid hre
                 have RP:=Lib.hid hP
                 have RB:=Lib.hid hB
                 clear hz hre hP hB
                 by_cases h1:i<n
                 ·have hix:i<q.rz.length:=by rw [HRN.out];exact h1
                  have hi8:i<8:=by have:=TR.out;omega
                  go_upto_region 22 with (fail)
                  have RPn:=Lib.hid (show ∀ n:WIn (Below R.heap.size R),n.val.heap[w.heap.size]? = some (.cells #[.string q.nm,.int .i64 q.top,.slice a2 q.sz.length c2,.slice a3 q.msgs.length c3,.slice a4 q.vals.length c4,.int .i64 q.fzz,.slice a6 q.res.length c6,.slice a7 q.init.length c7,.slice a8 q.lz.length c8,.slice a9 q.rz.length c9] 27 (0,0)) from λn=>keepB RP.out n.ok)
                  have RBn:=Lib.hid (show ∀ n:WIn (Below R.heap.size R),Below w.heap.size w n.val from λn=>Zq RB.out n.ok)
                  by_cases er:ruleE q i q.rz[i]=0
                  ·have Er0:=Lib.hid er
                   clear er
                   refine ZX ?_
                   refine BigFrame.wpQuiet_want (by rfl) (λK hK => ?_)
                   refine KT underlying27 Ku (.tmp 1) (by rfl) w.heap.size 0 [.string q.nm,.int .i64 q.top,.slice a2 q.sz.length c2,.slice a3 q.msgs.length c3,.slice a4 q.vals.length c4,.int .i64 q.fzz,.slice a6 q.res.length c6,.slice a7 q.init.length c7,.slice a8 q.lz.length c8,.slice a9 q.rz.length c9] (by rfl) (by rfl) (by rintro _ ⟨n,rfl⟩;exact YX (RPn.out n)) (hK _ ?_)
                   clear hK K
                   simp only [Act.put,List.setIfInBounds_toArray,List.set_cons_succ,List.set_cons_zero]
                   iterate 1 go_big_quiet_step (fail)
                   go_big_quiet_step (((with_reducible refine (KE i hix (HQ.out.below (RBn.out _))).mono ?_);rw [Er0.out];rintro e w1 ⟨rfl,hb⟩;exact ⟨rfl,⟨w1,Zq (WIn.ok _) hb⟩,rfl⟩))
                   repeat (go_big_quiet_step (fail))
                   refine wpQuiet_nil ?_
                   intro N
                   have TP:=Lib.hid (RPn.out N)
                   have TB:=Lib.hid (RBn.out N)
                   go_wp2_with fail
                   go_roundw
                   case rel =>
                    refine ⟨i+1,by omega,by go_num,λj hj hji => ?_,by rw [HRE.out];exact ZbM h1 HRN.out Er0.out,TP.out,TB.out⟩
                    by_cases hj2:j<i
                    ·exact HZ.out j hj hj2
                    obtain rfl:j=i:=by omega
                    exact Er0.out
                   case measure=>simp [intOf];omega
                  have Er0:=Lib.hid er
                  have er1:(ruleE q i q.rz[i] != 0)=true:=by simpa using er
                  clear er
                  refine ZX ?_
                  refine BigFrame.wpQuiet_want (by rfl) (λK hK => ?_)
                  refine KT underlying27 Ku (.tmp 1) (by rfl) w.heap.size 0 [.string q.nm,.int .i64 q.top,.slice a2 q.sz.length c2,.slice a3 q.msgs.length c3,.slice a4 q.vals.length c4,.int .i64 q.fzz,.slice a6 q.res.length c6,.slice a7 q.init.length c7,.slice a8 q.lz.length c8,.slice a9 q.rz.length c9] (by rfl) (by rfl) (by rintro _ ⟨n,rfl⟩;exact YX (RPn.out n)) (hK _ ?_)
                  clear hK K
                  simp only [Act.put,List.setIfInBounds_toArray,List.set_cons_succ,List.set_cons_zero]
                  iterate 1 go_big_quiet_step (fail)
                  go_big_quiet_step (((with_reducible refine (KE i hix (HQ.out.below (RBn.out _))).mono ?_);skip;rintro e w1 ⟨rfl,hb⟩;exact ⟨rfl,⟨w1,Zq (WIn.ok _) hb⟩,rfl⟩))
                  repeat (go_big_quiet_step (fail))
                  refine wpQuiet_nil ?_
                  intro N
                  go_wp2_with fail
                  go_ret
                  exact ⟨ZA (by unfold valE;rw [if_neg (by rw [En.out];simp),if_neg (by rw [Et.out,Ef.out];simp),if_neg E0.out,if_neg (by rw [Eb.out];simp),if_neg (by rw [Em.out];simp),if_neg (by rintro (h | h);exact absurd h.2 (by rw [Ec.out];simp);exact T1.out h.1),if_neg (by rw [Er.out];simp)];exact (ZdJ Eo.out (by rw [HRN.out,HRE.out];exact ZbN h1 HRN.out Er0.out) Er0.out).symm),RBn.out N⟩
                 obtain rfl:i=n:=by omega
                 have HALL:=Lib.hid (show ∀ r∈q.rz,r.gz.length<=2 from λr hr=>by obtain ⟨j,hj,rfl⟩:=List.getElem_of_mem hr;exact Wq (HZ.out j hj (by rw [<- HRN.out];exact hj)))
                 have HR0:=Lib.hid (show rulesE q 0 q.rz.length=0 by rw [HRN.out,HRE.out,Nat.sub_self];rfl)
                 have r9:R.cell? ⟨w.heap.size,9,none⟩=some (.slice a9 i c9):=by have:=Yn RP.out 9 (v := .slice a9 q.rz.length c9) rfl;rwa [HRN.out] at this
                 have H9i:=Lib.hid (show IsSl 18 RuEl lo R (.slice a9 i c9) q.rz by have:=H9.out.below RuEl.stays RB.out;rwa [HRN.out] at this)
                 by_cases hd:3<(diffG q.rz).length
                 ·have hd1:(3:Int)<(((diffG q.rz).length:Nat):Int):=by omega
                  go_wp2_with (go_at_call 96;(with_reducible refine (YG H9i.out (by have:=TR.out;omega) HALL.out).mono ?_);rintro e w1 ⟨v',rfl,hO,hb⟩;obtain ⟨av,cv,rfl⟩:=K4 hO.1;have HB1:=Lib.hid (Zq RB.out hb);clear hb hO)
                  go_ret
                  exact ⟨ZA (by unfold valE;rw [if_neg (by rw [En.out];simp),if_neg (by rw [Et.out,Ef.out];simp),if_neg E0.out,if_neg (by rw [Eb.out];simp),if_neg (by rw [Em.out];simp),if_neg (by rintro (h | h);exact absurd h.2 (by rw [Ec.out];simp);exact T1.out h.1),if_neg (by rw [Er.out];simp)];exact (Zc7 Eo.out HR0.out).trans (if_pos hd) |>.symm),HB1.out⟩
                 have hd1:¬ (3:Int)<(((diffG q.rz).length:Nat):Int):=by omega
                 go_wp2_with (go_at_call 96;(with_reducible refine (YG H9i.out (by have:=TR.out;omega) HALL.out).mono ?_);rintro e w1 ⟨v',rfl,hO,hb⟩;obtain ⟨av,cv,rfl⟩:=K4 hO.1;have HB1:=Lib.hid (Zq RB.out hb);clear hb hO)
                 go_ret
                 exact ⟨ZA (by unfold valE;rw [if_neg (by rw [En.out];simp),if_neg (by rw [Et.out,Ef.out];simp),if_neg E0.out,if_neg (by rw [Eb.out];simp),if_neg (by rw [Em.out];simp),if_neg (by rintro (h | h);exact absurd h.2 (by rw [Ec.out];simp);exact T1.out h.1),if_neg (by rw [Er.out];simp)];exact (Zc7 Eo.out HR0.out).trans (if_neg hd) |>.symm),HB1.out⟩
               have eo1:(orL [someE q.sz.length q.init,setE q.sz.length q.lz] != 0)=true:=by simpa using eo
               have Eo:=Lib.hid eo
               have MB:=Lib.hid (UBn.out m)
               clear eo
               go_wp2_with (go_at_call 94;refine (ZaN [someE q.sz.length q.init,setE q.sz.length q.lz] (by exact Kf m.val _ rfl) (by rfl) (by rfl) (by simp)).mono ?_;rintro e w1 ⟨rfl,rfl⟩)
               go_ret
               exact ⟨ZA (by unfold valE;rw [if_neg (by rw [En.out];simp),if_neg (by rw [Et.out,Ef.out];simp),if_neg E0.out,if_neg (by rw [Eb.out];simp),if_neg (by rw [Em.out];simp),if_neg (by rintro (h | h);exact absurd h.2 (by rw [Ec.out];simp);exact T1.out h.1),if_neg (by rw [Er.out];simp)];exact (val_sets Eo.out).symm),Zq MB.out (Zm m.val _)⟩
end Go.Proofs.YtmpgnibfhjdfpaaGreat
