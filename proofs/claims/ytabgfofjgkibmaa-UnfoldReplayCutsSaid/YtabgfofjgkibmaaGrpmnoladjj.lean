import Derived.Deep.DeepCutAuto
import Derived.Test.YtabgfofjgkibmaaGrpnnocpcek
set_option linter.all false
namespace Go.Proofs.Ytabgfofjgkibmaa
open Go.RowKit Go.Deep
set_option maxHeartbeats 12800000
theorem hasN_succ {xs:List ByteArray} {s:ByteArray} {k:Nat} (h:k<xs.length) (hk:hasN (xs.take k) s=false) (e:(s.toList==xs[k].toList)=false):hasN (xs.take (k+1)) s=false:=by
  have e':(xs[k].toList==s.toList)=false:=by rw [Bool.beq_comm];exact e
  unfold hasN at *;rw [List.take_succ_eq_append_getElem h,List.any_append,hk];simpa using e'
theorem hasN_yes {xs:List ByteArray} {s:ByteArray} {k:Nat} (h:k<xs.length) (e:(s.toList==xs[k].toList)=true):hasN xs s=true:=by
  unfold hasN;rw [List.any_eq_true];exact ⟨xs[k],List.getElem_mem h,by rw [Bool.beq_comm];exact e⟩
theorem hasN_end {xs:List ByteArray} {s:ByteArray} {k:Nat} (h:k=xs.length) (hk:hasN (xs.take k) s=false):hasN xs s=false:=by
  rwa [List.take_of_length_le (by omega)] at hk
theorem str_cell {lo:Nat} {w:World} {b off n cap:Nat} {xs:List ByteArray} (h:IsSl 1 StrEl lo w (.slice (some ⟨b,off,none⟩) n cap) xs) (k:Nat) (hk:k<xs.length):w.cell? ⟨b,off+k,none⟩=some (.string xs[k])∧xs[k].size≤maxLen:=by
  obtain ⟨b',off',cs,ha,_,_,_,hc,hel⟩:=h.at k hk
  cases ha
  have h0:=hc 0 (by omega)
  rw [hel.1] at h0
  simp only [Nat.add_zero,Nat.mul_one] at h0
  exact ⟨h0.trans rfl,hel.2⟩
theorem sl_cases {α:Type} {size:Nat} {P:Nat→World→List Value→α→Prop} {lo:Nat} {w:World} {v:Value} {xs:List α} (h:IsSl size P lo w v xs):(xs=[]∧∃ a c,v = .slice a 0 c)∨∃ b off c,v = .slice (some ⟨b,off,none⟩) xs.length c∧b<w.heap.size∧lo≤b:=by
  obtain ⟨a,cap,rfl,_,_,_,hc⟩:=h
  rcases hc with rfl | ⟨b,off,rfl,hlo,hb,_⟩
  · exact .inl ⟨rfl,_,_,rfl⟩
  exact .inr ⟨b,off,cap,rfl,hb,hlo⟩
theorem Index_any {lo:Nat} {w:World} {v:Value} {xs:List ByteArray} (s:ByteArray) (h:IsSl 1 StrEl lo w v xs) :
    Calls Try.prog 83 #[v,.string s] w fun e w'=>∃ i:Int,e = .returned (.int .i64 i)∧(decide (0≤i))=hasN xs s∧w'=w:=by
  have hn:=h.bound
  have H:=Lib.hid h
  rcases sl_cases h with ⟨rfl,a,c,rfl⟩ | ⟨b,off,c,rfl,_⟩
  · clear h
    go_enter Try.func83,Try.ntmps83
    go_wp2_with fail
    refine wp_loop_rounds 1 ?_
    rw [rounds_succ]
    go_wp2_with fail
    go_ret
    exact ⟨-1,rfl,rfl,rfl⟩
  generalize hN:xs.length=n at hn
  have HN:=Lib.hid hN
  rw [hN] at H
  clear h hN
  go_enter Try.func83,Try.ntmps83
  go_wp2_with fail
  go_loop [8] (fun u=>∃ k:Nat,k≤n∧u = .int .i64 k∧hasN (xs.take k) s=false) (fun u=>n-(intOf u).toNat)
  case atStart=>exact ⟨0,Nat.zero_le _,rfl,rfl⟩
  case round =>
    obtain ⟨k,hk,rfl,hs⟩:=hrel
    have HS:=Lib.hid hs
    clear hs
    by_cases h1:k<n
    · have hkx:k<xs.length:=by rw [HN.out];exact h1
      obtain ⟨g1,_⟩:=str_cell H.out k hkx
      by_cases he:(s.toList==xs[k].toList)=true
      · have HE:=Lib.hid (hasN_yes hkx he)
        go_wp2_with fail
        go_ret
        exact ⟨k,rfl,by rw [HE.out];simp,rfl⟩
      have he':(s.toList==xs[k].toList)=false:=by simpa using he
      have HE:=Lib.hid (hasN_succ hkx HS.out he')
      clear he
      go_wp2_with fail
      go_round
      case rel=>exact ⟨k+1,by omega,by go_num,HE.out⟩
      case measure=>simp [intOf];omega
    have HE:=Lib.hid (hasN_end (by rw [HN.out];omega) HS.out)
    go_wp2_with fail
    go_ret
    exact ⟨-1,rfl,by rw [HE.out];rfl,rfl⟩
theorem Contains_any {lo:Nat} {w:World} {v:Value} {xs:List ByteArray} (s:ByteArray) (h:IsSl 1 StrEl lo w v xs) :
    Calls Try.prog 69 #[v,.string s] w fun e w'=>e = .returned (.bool (hasN xs s))∧w'=w:=by
  have H:=Lib.hid h
  clear h
  go_enter Try.func69,Try.ntmps69
  go_wp2_with (go_at_call 83;(with_reducible refine (Index_any s H.out).mono ?_);rintro e w1 ⟨i,rfl,hi,rfl⟩;have HI:=Lib.hid hi;clear hi)
  go_ret
  exact ⟨Zi (by rw [← HI.out]),rfl⟩
theorem IsSl.take' {α:Type} {size:Nat} {P:Nat→World→List Value→α→Prop} {lo:Nat} {w:World} {a:Option Addr} {n cap:Nat} {xs:List α} (h:IsSl size P lo w (.slice a n cap) xs) (k:Nat) (hk:k≤xs.length):IsSl size P lo w (.slice a k cap) (xs.take k):=by
  obtain ⟨a',cap',hv,h1,hm,hn,hc⟩:=h
  simp only [Value.slice.injEq] at hv
  obtain ⟨rfl,rfl,rfl⟩:=hv
  have e:(xs.take k).length=k:=by simp;omega
  refine ⟨a,cap,by rw [e],by omega,hm,hn,?_⟩
  rcases hc with rfl | ⟨b,off,ha,hlo,hb,hc⟩
  · exact .inl (by simp)
  refine .inr ⟨b,off,ha,hlo,hb,fun i hi => ?_⟩
  obtain ⟨cs,g1,g2,g3⟩:=hc i (by omega)
  exact ⟨cs,g1,g2,by simpa using g3⟩
theorem sl_cap {α:Type} {size:Nat} {P:Nat→World→List Value→α→Prop} {lo:Nat} {w:World} {a:Option Addr} {n cap:Nat} {xs:List α} (h:IsSl size P lo w (.slice a n cap) xs):n≤cap∧n=xs.length:=by
  obtain ⟨a',cap',hv,h1,hm,hn,hc⟩:=h
  simp only [Value.slice.injEq] at hv
  omega
set_option maxRecDepth 100000 in
theorem areNames_any {lo g k:Nat} {w:World} (xss:List (List ByteArray)) (hx:xss.length=k) (hk:k≤1000) (ht:xss.flatten.length≤1000) (hb:g<w.heap.size) (hz:∀ s∈xss.flatten,s.size≤maxLen)
    (hc:∀ i (hi:i<xss.length),∃ u,w.cell? ⟨g,0+i,none⟩=some u∧IsSl 1 StrEl lo w u xss[i]) :
    Calls Try.prog 43 #[.slice (some ⟨g,0,none⟩) k k] w fun e w'=>e = .returned (.bool (nmOk xss.flatten xss.flatten.length))∧Below w.heap.size w w':=by
  have HC:=Lib.hid hc
  have HZ:=Lib.hid hz
  have HT:=Lib.hid ht
  clear hc hz ht
  go_enter Try.func43,Try.ntmps43
  go_upto_region 2 with (go_at_call 68;(with_reducible refine (Concat_full g 0 k k _ xss hx hk HT.out hb HZ.out HC.out).mono ?_);rintro e w1 ⟨v',rfl,hv,hb1⟩;have HV:=Lib.hid hv;have HB1:=Lib.hid hb1;clear hv hb1)
  have hnb:=HV.out.bound
  rcases sl_cases HV.out with ⟨hnil,a,c,rfl⟩ | ⟨b,off,c,rfl,hbw,_⟩
  · have E:=Lib.hid (show nmOk xss.flatten xss.flatten.length=true by rw [hnil];rfl)
    clear hnil
    go_wp2_with fail
    refine wp_loop_rounds 1 ?_
    rw [rounds_succ]
    go_wp2_with fail
    go_ret
    exact ⟨Zi E.out.symm,HB1.out⟩
  generalize hN:xss.flatten=all at HV hnb HZ ⊢
  generalize hn:all.length=n at hnb
  have HALL:=Lib.hid hN
  have HN:=Lib.hid hn
  rw [hn] at HV
  have hcap:n≤c:=(sl_cap HV.out).1
  clear hN hn HC
  go_wp2_with fail
  go_loopw [10] (fun u wr=>∃ i:Nat,i≤n∧u = .int .i64 i∧nmOk all i=true∧Below w1.heap.size w1 wr) (fun u _=>n-(intOf u).toNat)
  case atStart=>exact ⟨0,Nat.zero_le _,rfl,rfl,Below.refl _ _⟩
  case round =>
    obtain ⟨i,hi,rfl,hs,hB⟩:=hrel
    have HS:=Lib.hid hs
    have HB:=Lib.hid hB
    clear hs hB
    have hBW:=Lib.hid (Zg HB1.out HB.out)
    by_cases h1:i<n
    · have hix:i<all.length:=by rw [HN.out];exact h1
      obtain ⟨g1,hsz⟩:=str_cell HV.out i hix
      have g2:=(HB.out.cell (p:=⟨b,off+i,none⟩) hbw).trans g1
      have HSZ:=Lib.hid hsz
      have HNO:=Lib.hid (fun h=>nmOk_no (xs:=all) (n:=n) hix h1 h)
      have HYES:=Lib.hid (fun h h'=>nmOk_succ (xs:=all) hix HS.out h h')
      generalize hX:all[i]=x at g2 HSZ HNO HYES
      clear g1 hsz hX
      cases n0:nameB x.toList with
      | false =>
        have N0:=Lib.hid n0
        clear n0
        go_wp2_with (go_at_call 40;(with_reducible refine (Yu x _ HSZ.out).mono ?_);rw [N0.out];rintro e w2 ⟨rfl,hb2⟩;have HB2:=Lib.hid hb2;clear hb2)
        go_ret
        exact ⟨Zi (by rw [HALL.out,HN.out];exact (HNO.out (.inl N0.out)).symm),Zg hBW.out HB2.out⟩
      | true =>
        have N0:=Lib.hid n0
        clear n0
        cases d0:hasN (all.take i) x with
        | true =>
          have D0:=Lib.hid d0
          clear d0
          go_wp2_with (first | (go_at_call 40;(with_reducible refine (Yu x _ HSZ.out).mono ?_);rw [N0.out];rintro e w2 ⟨rfl,hb2⟩;have HB2:=Lib.hid hb2;clear hb2) | (go_at_call 69;(with_reducible refine (Contains_any x ((HV.out.below StrEl.stays (Zg HB.out HB2.out)).take' i (by omega))).mono ?_);rw [D0.out];rintro e w3 ⟨rfl,rfl⟩))
          go_ret
          exact ⟨Zi (by rw [HALL.out,HN.out];exact (HNO.out (.inr D0.out)).symm),Zg hBW.out HB2.out⟩
        | false =>
          have D0:=Lib.hid d0
          clear d0
          go_wp2_with (first | (go_at_call 40;(with_reducible refine (Yu x _ HSZ.out).mono ?_);rw [N0.out];rintro e w2 ⟨rfl,hb2⟩;have HB2:=Lib.hid hb2;clear hb2) | (go_at_call 69;(with_reducible refine (Contains_any x ((HV.out.below StrEl.stays (Zg HB.out HB2.out)).take' i (by omega))).mono ?_);rw [D0.out];rintro e w3 ⟨rfl,rfl⟩))
          go_roundw
          case rel=>exact ⟨i+1,by omega,by go_num,HYES.out N0.out D0.out,Zg HB.out HB2.out⟩
          case measure=>simp [intOf];omega
    obtain rfl:i=n:=by omega
    go_wp2_with fail
    go_ret
    exact ⟨Zi (by rw [HALL.out,HN.out];exact HS.out.symm),hBW.out⟩
end Go.Proofs.Ytabgfofjgkibmaa
