import Derived.Test.YtmpgnibfhjdfpaaGreatGrpegdbhmoc
import Derived.Test.YtmpgnibfhjdfpaaGreatGrpmgeggbob
set_option linter.all false
namespace Go.Proofs.YtmpgnibfhjdfpaaGreat
open Go.RowKit Go.Deep Tryz
set_option maxHeartbeats 12800000
variable {w:World}{v:Value}
theorem row_lower {B B':Nat} {e:TypeId} {size n:Nat} {xs:List Value} (h:w.ownsRow B e size v n xs) (hb:B'<=B):w.ownsRow B' e size v n xs:=by
 obtain ⟨h1,h2⟩:=h
 refine ⟨h1,?_⟩
 rcases h2 with h2 | ⟨g,cap,cur,hv,hg,r⟩
 ·exact .inl h2
 exact .inr ⟨g,cap,cur,hv,Nat.le_trans hb hg,r⟩
theorem ZeC {lo:Nat} {q:Fm} (hq:IsFam lo w v q) (h8:q.rz.length<=8) (h2:∀ r∈q.rz,r.gz.length<=2) :
 Calls Tryz.prog 110 #[v] w λe w'=>∃ v',e = .returned v'/\OwnTh w.heap.size w' v' (diffG q.rz)/\Below w.heap.size w w':=by
 have G2:=Lib.hid h2
 obtain ⟨v2,v3,v4,v6,v7,v8,v9,rfl,hnm,_,h2,h3,h4,_,h6,h7,h8',h9⟩:=hq
 obtain ⟨a2,c2,rfl⟩:=h2.shape
 obtain ⟨a3,c3,rfl⟩:=h3.shape
 obtain ⟨a4,c4,rfl⟩:=h4.shape
 obtain ⟨a6,c6,rfl⟩:=h6.shape
 obtain ⟨a7,c7,rfl⟩:=h7.shape
 obtain ⟨a8,c8,rfl⟩:=h8'.shape
 have H9:=Lib.hid h9
 clear h2 h3 h4 h6 h7 h8' hnm
 rcases Wo h9 with ⟨hnil,a9,c9,rfl⟩ | ⟨b,off,c9,rfl,hbw,_⟩
 ·have E:=Lib.hid (show diffG q.rz=[] by rw [hnil];rfl)
  clear h9 H9 h8 hnil
  go_enter func110,ntmps110
  go_wp2_with fail
  refine wp_loop_rounds 1 ?_
  rw [rounds_succ]
  go_wp2_with fail
  go_ret
  exact ⟨_,rfl,by rw [E.out];exact OwnTh.nil _ _,Zm _ _⟩
 clear h9
 generalize hN:q.rz.length=n at h8 H9
 have HN:=Lib.hid hN
 clear hN
 go_enter func110,ntmps110
 go_upto_region 1 with (fail)
 obtain ⟨W,hW⟩:∃ W:World,W=w.alloc (.cells #[.string q.nm,.int .i64 q.top,.slice a2 q.sz.length c2,.slice a3 q.msgs.length c3,.slice a4 q.vals.length c4,.int .i64 q.fzz,.slice a6 q.res.length c6,.slice a7 q.init.length c7,.slice a8 q.lz.length c8,.slice (some ⟨b,off,none⟩) n c9] 27):=⟨_,rfl⟩
 rw [<- hW]
 have HW:=Lib.hid (show Below w.heap.size w W by rw [hW];exact Zm _ _)
 have HP:=Lib.hid (show W.heap[w.heap.size]? = some (.cells #[.string q.nm,.int .i64 q.top,.slice a2 q.sz.length c2,.slice a3 q.msgs.length c3,.slice a4 q.vals.length c4,.int .i64 q.fzz,.slice a6 q.res.length c6,.slice a7 q.init.length c7,.slice a8 q.lz.length c8,.slice (some ⟨b,off,none⟩) n c9] 27 (0,0)) by rw [hW];exact Kf _ _ rfl)
 clear hW
 go_wp2_with fail
 go_loopw [3,4] (λv u wr=>∃ (i:Nat) (a:Option Addr) (c:Nat) (l:List Th),i<=n/\u = .int .i64 i/\v = .slice a l.length c/\l=diffG (q.rz.take i)/\l.length<=2*i/\OwnTh W.heap.size wr (.slice a l.length c) l/\Below W.heap.size W wr) (λ_ u _=>n-(intOf u).toNat)
 case atStart=>exact ⟨0,none,0,[],Nat.zero_le _,rfl,rfl,rfl,by simp,OwnTh.nil _ _,Below.refl _ _⟩
 case round =>
  obtain ⟨i,a,ca,l,hi,rfl,rfl,hl,hlen,hO,hB⟩:=hrel
  have HO:=Lib.hid hO
  have HB:=Lib.hid hB
  have HLI:=Lib.hid hl
  have p9:wr.cell? ⟨w.heap.size,9,none⟩=some (.slice (some ⟨b,off,none⟩) n c9):=Yn (keepB HP.out hB) 9 rfl
  clear hO hB hl
  by_cases h1:i<n
  ·have hix:i<q.rz.length:=by rw [HN.out];exact h1
   obtain ⟨b',off',cs,hab,_,_,hcl,hcc,hel⟩:=H9.out.at i hix
   cases hab
   obtain ⟨_,u7,_,_,_,_,_,_,hcs,_,k7,_⟩:=Zd3 hel
   have p7:cs[7]? = some u7:=by rw [hcs];rfl
   obtain ⟨a7',c7',rfl⟩:=k7.shape
   have r7:w.cell? ⟨b,off+i*18+7,none⟩=some (.slice a7' q.rz[i].gz.length c7'):=(hcc 7 (by omega)).trans p7
   have hg2:q.rz[i].gz.length<=2:=G2.out _ (List.getElem_mem hix)
   have DS:=Lib.hid (ZcN hix)
   generalize q.rz[i].gz=gs at k7 r7 hg2 DS
   generalize hM:gs.length=m at r7 hg2 k7
   have HM:=Lib.hid hM
   have K7:=Lib.hid k7
   have R7:=Lib.hid r7
   clear hcl hcc hel hcs p7 k7 hM r7
   go_wp2_with fail
   go_loopw [3,5] (λv u wr'=>∃ (j:Nat) (a:Option Addr) (c:Nat) (l':List Th),j<=m/\u = .int .i64 j/\v = .slice a l'.length c/\l'=(gs.take j).foldl addT l/\l'.length<=l.length+j/\OwnTh W.heap.size wr' (.slice a l'.length c) l'/\Below W.heap.size W wr') (λ_ u _=>m-(intOf u).toNat)
   case atStart=>exact ⟨0,a,ca,l,Nat.zero_le _,rfl,rfl,rfl,Nat.le_refl _,HO.out,HB.out⟩
   case round =>
    clear p9
    obtain ⟨j,aj,cj,l',hj,rfl,rfl,hl',hlen',hOj,hBj⟩:=hrel
    obtain ⟨X,hX⟩:∃ X:World,X=wr:=⟨_,rfl⟩
    rw [<- hX] at hOj hBj ⊢
    clear hX
    have HOj:=Lib.hid hOj
    have HBj:=Lib.hid hBj
    have HLJ:=Lib.hid hl'
    have p9:X.cell? ⟨w.heap.size,9,none⟩=some (.slice (some ⟨b,off,none⟩) n c9):=Yn (keepB HP.out hBj) 9 rfl
    have r7:X.cell? ⟨b,off+i*18+7,none⟩=some (.slice a7' m c7'):=((Zq HW.out hBj).cell (p:=⟨b,off+i*18+7,none⟩) hbw).trans R7.out
    clear hOj hBj hl'
    by_cases hjm:j<m
    ·have hjx:j<gs.length:=by rw [HM.out];exact hjm
     obtain ⟨bg,og,csg,hag,_,hbgw,hcl,hcc,hel⟩:=K7.out.at j hjx
     cases hag
     obtain ⟨hel1,hI⟩:csg=thC gs[j]/\thI gs[j]:=hel
     have HI:=Lib.hid hI
     have RG:=Lib.hid (rangeBelow (rangeOf hcl hcc) (Zq HW.out HBj.out))
     have IS:=Lib.hid (ZcH (l0:=l) hjx)
     rw [hel1] at RG
     clear hel1 hcl hcc hI
     generalize gs[j]=x at RG HI IS
     go_upto_region 8 with (fail)
     refine wp_region_lit ?_
     iterate 8
      refine wpList_step λK hK => ?_
      go_simp
      refine hK _ _ ?_
      clear hK K
     refine ld_mid underlying118 Zdp (by rfl) (.tmp 32) (by rfl) bg (og+j*6) (thC x) (by rfl) (by rfl) RG.out ?_
     refine wpList_step λK hK => ?_
     go_simp
     refine hK _ _ ?_
     clear hK K
     refine Zbl (T:=118) Zdp (by rfl) (.tmp 6) (.tmp 33) (by rfl) X.heap.size (thC x) (by rfl) (by rfl) (by rfl) (Kf _ _ rfl) (by rfl) (by intro v hv;simp [thC] at hv;rcases hv with rfl | rfl | rfl | rfl | rfl | rfl<;>rfl) (λY hY hbl hsz _ => ?_)
     have YB:=Lib.hid (show Below W.heap.size W Y from hbl _ _ HBj.out.size (HBj.out.trans ((Zm X _).mono HBj.out.size)))
     have YR:=Lib.hid (show Below X.heap.size X Y from hbl _ _ (Nat.le_refl _) (Zm X _))
     have y0:Y.cell? ⟨X.heap.size,0,none⟩=some (.int .i64 x.msg):=Yn hY 0 (by rfl)
     have y1:Y.cell? ⟨X.heap.size,1,none⟩=some (.int .i64 x.coef):=Yn hY 1 (by rfl)
     have y2:Y.cell? ⟨X.heap.size,2,none⟩=some (.int .i64 x.bd.c):=Yn hY 2 (by rfl)
     have y3:Y.cell? ⟨X.heap.size,3,none⟩=some (.int .i64 x.bd.n):=Yn hY 3 (by rfl)
     have y4:Y.cell? ⟨X.heap.size,4,none⟩=some (.int .i64 x.bd.t):=Yn hY 4 (by rfl)
     have y5:Y.cell? ⟨X.heap.size,5,none⟩=some (.int .i64 x.bd.f):=Yn hY 5 (by rfl)
     have YO:=Lib.hid (HOj.out.still YR.out)
     have hYs:X.heap.size<Y.heap.size:=by rw [hsz];simp
     have HYS:=Lib.hid hYs
     clear hY hbl hsz YR RG p9 r7
     refine wpList_nil ?_
     simp only [Act.put]
     by_cases hin:x∈l'
     ·have hd:decide (x∈l')=true:=decide_eq_true hin
      have HD:=Lib.hid hd
      have HADD:=Lib.hid (show addT l' x=l' from if_pos hin)
      clear hin hd
      go_wp2_with (go_at_call 126;(with_reducible refine (Zcb x.msg x.coef x.bd.c x.bd.n x.bd.t x.bd.f YO.out.sl).mono ?_);rintro e w2 ⟨k,rfl,hki,hb2⟩;have hk0:¬ k<0:=(by have:=hki.trans HD.out;simpa using this);have HB2:=Lib.hid hb2;clear hb2 hki)
      go_roundw
      case rel=>exact ⟨j+1,aj,cj,l',by omega,by go_num,rfl,by rw [IS.out,<- HLJ.out,HADD.out],by omega,YO.out.still HB2.out,YB.out.trans (HB2.out.mono YB.out.size)⟩
      case measure=>simp [intOf];omega
     have hd:decide (x∈l')=false:=decide_eq_false hin
     have HD:=Lib.hid hd
     have HADD:=Lib.hid (show addT l' x=l'++[x] from if_neg hin)
     clear hin hd
     go_wp2_with (first | (go_at_call 126;(with_reducible refine (Zcb x.msg x.coef x.bd.c x.bd.n x.bd.t x.bd.f YO.out.sl).mono ?_);rintro e w2 ⟨k,rfl,hki,hb2⟩;have hk0:k<0:=(by have:=hki.trans HD.out;simpa using this);have HB2:=Lib.hid hb2;have HO2:=Lib.hid (YO.out.still hb2);have h20:=keep1 y0 hb2;have h21:=keep1 y1 hb2;have h22:=keep1 y2 hb2;have h23:=keep1 y3 hb2;have h24:=keep1 y4 hb2;have h25:=keep1 y5 hb2;clear hb2 hki) | (at_builtin;refine KJ elTh (by rfl) (.tmp 38) (.tmp 40) (by rfl) W.heap.size _ l'.length _ (thC x) w2.heap.size (by rfl) (by rfl) (by rfl) HO2.out.1 (by rfl) (by intro v hv;simp [thC] at hv;rcases hv with rfl | rfl | rfl | rfl | rfl | rfl<;>rfl) (by omega) (by unfold maxLen;omega) ((YB.out.trans (HB2.out.mono YB.out.size)).size) (by rfl) ?_;intro g cap w3 hown hgrow hat hlo hlt hsz))
     go_roundw
     case rel =>
      refine ⟨j+1,some ⟨g,0,none⟩,cap,l'++[x],by omega,by go_num,by simp,by rw [IS.out,<- HLJ.out,HADD.out],by simp;omega,⟨?_,?_⟩,?_⟩
      ·rw [List.length_append,List.flatMap_append];simpa using hown
      ·intro y hy
       rcases List.mem_append.1 hy with hy | hy
       ·exact HO2.out.2 y hy
       rw [List.mem_singleton.1 hy];exact HI.out
      exact (YB.out.trans (HB2.out.mono YB.out.size)).grown hgrow (YB.out.trans (HB2.out.mono YB.out.size)).size (ZbO HO2.out.1)
     case measure=>simp [intOf];omega
    obtain rfl:j=m:=by omega
    go_wp2_with fail
    go_roundw
    case rel =>
     have e2:l'=diffG (q.rz.take (i+1)):=by rw [HLJ.out,DS.out,List.take_of_length_le (by rw [HM.out];exact Nat.le_refl _),HLI.out]
     exact ⟨i+1,aj,cj,l',by omega,by go_num,rfl,e2,by omega,HOj.out,HBj.out⟩
    case measure=>simp [intOf];omega
  obtain rfl:i=n:=by omega
  go_wp2_with fail
  go_ret
  have e2:diffG (q.rz.take i)=diffG q.rz:=by rw [List.take_of_length_le (by rw [HN.out];exact Nat.le_refl _)]
  refine ⟨_,rfl,?_,Zq HW.out HB.out⟩
  rw [<- e2,<- HLI.out]
  exact ⟨row_lower HO.out.1 HW.out.size,HO.out.2⟩
end Go.Proofs.YtmpgnibfhjdfpaaGreat
