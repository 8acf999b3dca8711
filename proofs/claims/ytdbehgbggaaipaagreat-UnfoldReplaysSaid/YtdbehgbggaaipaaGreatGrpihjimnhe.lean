import Derived.Lib.Hide
import Derived.Test.YtdbehgbggaaipaaGreatGrpblcpooha
import Derived.Test.YtdbehgbggaaipaaGreatGrpmplibfba
import Derived.Test.YtdbehgbggaaipaaGreatGrpmknfboop
set_option linter.all false
namespace Go.Proofs.YtdbehgbggaaipaaGreat
open Go.RowKit Go.Deep
set_option maxHeartbeats 12800000
def bigNk (xs:List ByteArray) (k:Nat):Bool:=(xs.take k).any fun s=>decide (500<s.size)
variable {xs:List ByteArray}{k:Nat}
theorem bigNk_succ (h:k<xs.length) (hk:bigNk xs k=false) (hp:¬ 500<xs[k].size):bigNk xs (k+1)=false:=by
 unfold bigNk at *;rw [List.take_succ_eq_append_getElem h,List.any_append,hk];simp;omega
theorem bigNk_yes (h:k<xs.length) (hp:500<xs[k].size):bigNk xs xs.length=true:=by
 unfold bigNk;rw [List.take_length,List.any_eq_true];exact ⟨xs[k],List.getElem_mem h,by simpa using hp⟩
def bigN (xs:List ByteArray):Bool:=bigNk xs xs.length
variable {lo:Nat}{w:World}{v:Value}
theorem Yt (h:IsSl 1 StrEl lo w v xs) :
 Calls Tryz.prog 17 #[v] w fun e w'=>e = .returned (.bool (bigN xs))∧w=w':=by
 have hb:=h.bound
 have E:Hid (bigN xs=bigNk xs xs.length):=(rfl:bigN xs=_)
 obtain ⟨a,cap,rfl⟩:=h.shape
 have G:=Lib.hid h
 clear h
 go_enter Tryz.func17,Tryz.ntmps17
 go_wp2_with fail
 go_loop [3] (fun v=>∃ k:Nat,k≤xs.length∧v = .int .i64 k∧bigNk xs k=false) (fun v=>xs.length-(intOf v).toNat)
 case atStart=>exact ⟨0,Nat.zero_le _,rfl,rfl⟩
 case round =>
  obtain ⟨k,hk,rfl,hs⟩:=hrel
  have HS:=Lib.hid hs
  clear hs
  by_cases h1:k<xs.length
  ·obtain ⟨b,off,cs,rfl,_,_,_,hc,hcs,_⟩:=G.out.at k h1
   have g1:=hc 0 (by omega)
   rw [hcs] at g1
   simp only [Nat.mul_one,Nat.add_zero,List.getElem?_cons_zero] at g1
   clear hc hcs
   by_cases h2:500<(xs[k]'h1).size
   ·have h2':(500:Int)<(((xs[k]'h1).size:Nat):Int):=by omega
    go_wp2_with fail
    go_ret
    exact ⟨Zi (by rw [E.out,bigNk_yes h1 h2]),rfl⟩
   have h2':¬ (500:Int)<(((xs[k]'h1).size:Nat):Int):=by omega
   go_wp2_with fail
   go_round
   case rel=>exact ⟨k+1,by omega,by go_num,bigNk_succ h1 HS.out h2⟩
   case measure=>simp [intOf];omega
  have HE:=Lib.hid (show bigN xs=false by have:k=xs.length:=by omega
                                          rw [E.out,← this,HS.out])
  go_wp2_with fail
  go_ret
  exact ⟨Zi (by rw [HE.out]),rfl⟩
def bigR (r:Ru):Bool:=decide (500<r.nm.size)||decide (60<r.resp.length)||decide (60<r.gz.length)||decide (60<r.ex.length)||decide (60<r.fa.length)||decide (60<r.send.length)||decide (60<r.left.length)||decide (60<r.right.length)||decide (60<r.pz.length)
theorem ZbT {cs:List Value} {r:Ru} (h:RuEl lo w cs r) :
 Calls Tryz.prog 16 #[.agg cs.toArray] w fun e w'=>e = .returned (.bool (bigR r))∧Below w.heap.size w w':=by
 obtain ⟨v6,v7,v8,v9,v12,v14,v15,v16,rfl,h0,h1,h2,h3,h4,h5,h6,h7,h8,h9,h10,h11,h12,h13,h14,h15,h16,h17⟩:=h
 have E:Hid (bigR r=(decide (500<r.nm.size)||decide (60<r.resp.length)||decide (60<r.gz.length)||decide (60<r.ex.length)||decide (60<r.fa.length)||decide (60<r.send.length)||decide (60<r.left.length)||decide (60<r.right.length)||decide (60<r.pz.length))):=(rfl:bigR r=_)
 unfold maxLen at h0
 obtain ⟨a6,c6,rfl⟩:=h6.shape
 obtain ⟨a7,c7,rfl⟩:=h7.shape
 obtain ⟨a8,c8,rfl⟩:=h8.shape
 obtain ⟨a9,c9,rfl⟩:=h9.shape
 obtain ⟨a12,c12,rfl⟩:=h12.shape
 obtain ⟨a14,c14,rfl⟩:=h14.shape
 obtain ⟨a15,c15,rfl⟩:=h15.shape
 obtain ⟨a16,c16,rfl⟩:=h16.shape
 have b6:r.resp.length≤9223372036854775807:=by obtain ⟨_,_,_,hh,hm,_⟩:=h6;unfold maxLen at hm;omega
 have b7:r.gz.length≤9223372036854775807:=by have:=h7.bound;exact this
 have b8:r.ex.length≤9223372036854775807:=by obtain ⟨_,_,_,hh,hm,_⟩:=h8;unfold maxLen at hm;omega
 have b9:r.fa.length≤9223372036854775807:=by obtain ⟨_,_,_,hh,hm,_⟩:=h9;unfold maxLen at hm;omega
 have b12:r.send.length≤9223372036854775807:=by obtain ⟨_,_,_,hh,hm,_⟩:=h12;unfold maxLen at hm;omega
 have b14:r.left.length≤9223372036854775807:=by obtain ⟨_,_,_,hh,hm,_⟩:=h14;unfold maxLen at hm;omega
 have b15:r.right.length≤9223372036854775807:=by obtain ⟨_,_,_,hh,hm,_⟩:=h15;unfold maxLen at hm;omega
 have b16:r.pz.length≤9223372036854775807:=by obtain ⟨_,_,_,hh,hm,_⟩:=h16;unfold maxLen at hm;omega
 clear h1 h2 h3 h4 h5 h6 h7 h8 h9 h10 h11 h12 h13 h14 h15 h16 h17
 by_cases t0:500<r.nm.size
 ·have i0:(500:Int)<(r.nm.size:Int):=by omega
  go_enter Tryz.func16,Tryz.ntmps16
  go_wp2_with fail
  go_ret
  exact ⟨Zi (by rw [E.out,decide_eq_true t0];simp),Zd _ _⟩
 have i0:¬ (500:Int)<(r.nm.size:Int):=by omega
 by_cases t1:60<r.resp.length
 ·have i1:(60:Int)<(r.resp.length:Int):=by omega
  go_enter Tryz.func16,Tryz.ntmps16
  go_wp2_with fail
  go_ret
  exact ⟨Zi (by rw [E.out,decide_eq_true t1];simp),Zd _ _⟩
 have i1:¬ (60:Int)<(r.resp.length:Int):=by omega
 by_cases t2:60<r.gz.length
 ·have i2:(60:Int)<(r.gz.length:Int):=by omega
  go_enter Tryz.func16,Tryz.ntmps16
  go_wp2_with fail
  go_ret
  exact ⟨Zi (by rw [E.out,decide_eq_true t2];simp),Zd _ _⟩
 have i2:¬ (60:Int)<(r.gz.length:Int):=by omega
 by_cases t3:60<r.ex.length
 ·have i3:(60:Int)<(r.ex.length:Int):=by omega
  go_enter Tryz.func16,Tryz.ntmps16
  go_wp2_with fail
  go_ret
  exact ⟨Zi (by rw [E.out,decide_eq_true t3];simp),Zd _ _⟩
 have i3:¬ (60:Int)<(r.ex.length:Int):=by omega
 by_cases t4:60<r.fa.length
 ·have i4:(60:Int)<(r.fa.length:Int):=by omega
  go_enter Tryz.func16,Tryz.ntmps16
  go_wp2_with fail
  go_ret
  exact ⟨Zi (by rw [E.out,decide_eq_true t4];simp),Zd _ _⟩
 have i4:¬ (60:Int)<(r.fa.length:Int):=by omega
 by_cases t5:60<r.send.length
 ·have i5:(60:Int)<(r.send.length:Int):=by omega
  go_enter Tryz.func16,Tryz.ntmps16
  go_wp2_with fail
  go_ret
  exact ⟨Zi (by rw [E.out,decide_eq_true t5];simp),Zd _ _⟩
 have i5:¬ (60:Int)<(r.send.length:Int):=by omega
 by_cases t6:60<r.left.length
 ·have i6:(60:Int)<(r.left.length:Int):=by omega
  go_enter Tryz.func16,Tryz.ntmps16
  go_wp2_with fail
  go_ret
  exact ⟨Zi (by rw [E.out,decide_eq_true t6];simp),Zd _ _⟩
 have i6:¬ (60:Int)<(r.left.length:Int):=by omega
 by_cases t7:60<r.right.length
 ·have i7:(60:Int)<(r.right.length:Int):=by omega
  go_enter Tryz.func16,Tryz.ntmps16
  go_wp2_with fail
  go_ret
  exact ⟨Zi (by rw [E.out,decide_eq_true t7];simp),Zd _ _⟩
 have i7:¬ (60:Int)<(r.right.length:Int):=by omega
 by_cases t8:60<r.pz.length
 ·have i8:(60:Int)<(r.pz.length:Int):=by omega
  go_enter Tryz.func16,Tryz.ntmps16
  go_wp2_with fail
  go_ret
  exact ⟨Zi (by rw [E.out,decide_eq_true t8];simp),Zd _ _⟩
 have i8:¬ (60:Int)<(r.pz.length:Int):=by omega
 go_enter Tryz.func16,Tryz.ntmps16
 go_wp2_with fail
 go_ret
 exact ⟨Zi (by rw [E.out,decide_eq_false t0,decide_eq_false t1,decide_eq_false t2,decide_eq_false t3,decide_eq_false t4,decide_eq_false t5,decide_eq_false t6,decide_eq_false t7,decide_eq_false t8];rfl),Zd _ _⟩
def bigRk (xs:List Ru) (k:Nat):Bool:=(xs.take k).any bigR
theorem bigRk_succ {xs:List Ru} (h:k<xs.length) (hk:bigRk xs k=false) (hp:bigR xs[k]=false):bigRk xs (k+1)=false:=by
 unfold bigRk at *;rw [List.take_succ_eq_append_getElem h,List.any_append,hk];simp [hp]
theorem bigRk_yes {xs:List Ru} (h:k<xs.length) (hp:bigR xs[k]=true):bigRk xs xs.length=true:=by
 unfold bigRk;rw [List.take_length,List.any_eq_true];exact ⟨xs[k],List.getElem_mem h,hp⟩
def bigF (q:Fm):Bool:=decide (500<q.nm.size)||decide (60<q.sz.length)||decide (60<q.msgs.length)||decide (60<q.vals.length)||decide (60<q.res.length)||decide (60<q.init.length)||decide (60<q.lz.length)||decide (30<q.rz.length)||bigRk q.rz q.rz.length||bigN q.sz||bigN q.msgs||bigN q.vals
theorem Big_any {q:Fm} (h:IsFam lo w v q) :
 Calls Tryz.prog 5 #[v] w fun e w'=>e = .returned (.bool (bigF q))∧Below w.heap.size w w':=by
 obtain ⟨v2,v3,v4,v6,v7,v8,v9,rfl,h0,h1,h2,h3,h4,h5,h6,h7,h8,h9⟩:=h
 have E:Hid (bigF q=(decide (500<q.nm.size)||decide (60<q.sz.length)||decide (60<q.msgs.length)||decide (60<q.vals.length)||decide (60<q.res.length)||decide (60<q.init.length)||decide (60<q.lz.length)||decide (30<q.rz.length)||bigRk q.rz q.rz.length||bigN q.sz||bigN q.msgs||bigN q.vals)):=(rfl:bigF q=_)
 unfold maxLen at h0
 have b2:q.sz.length≤9223372036854775807:=by exact h2.bound
 have b3:q.msgs.length≤9223372036854775807:=by exact h3.bound
 have b4:q.vals.length≤9223372036854775807:=by exact h4.bound
 have b6:q.res.length≤9223372036854775807:=by exact h6.bound
 have b7:q.init.length≤9223372036854775807:=by obtain ⟨_,_,_,hh,hm,_⟩:=h7;unfold maxLen at hm;omega
 have b8:q.lz.length≤9223372036854775807:=by obtain ⟨_,_,_,hh,hm,_⟩:=h8;unfold maxLen at hm;omega
 have b9:q.rz.length≤9223372036854775807:=by exact h9.bound
 obtain ⟨a2,c2,rfl⟩:=h2.shape
 obtain ⟨a3,c3,rfl⟩:=h3.shape
 obtain ⟨a4,c4,rfl⟩:=h4.shape
 obtain ⟨a6,c6,rfl⟩:=h6.shape
 obtain ⟨a7,c7,rfl⟩:=h7.shape
 obtain ⟨a8,c8,rfl⟩:=h8.shape
 obtain ⟨a9,c9,rfl⟩:=h9.shape
 have G2:=Lib.hid h2
 have G3:=Lib.hid h3
 have G4:=Lib.hid h4
 have G9:=Lib.hid h9
 clear h1 h2 h3 h4 h5 h6 h7 h8 h9
 by_cases t0:500<q.nm.size
 ·have i0:(500:Int)<(q.nm.size:Int):=by omega
  go_enter Tryz.func5,Tryz.ntmps5
  go_wp2_with fail
  go_ret
  exact ⟨Zi (by rw [E.out,decide_eq_true t0];simp),Zd _ _⟩
 have i0:¬ (500:Int)<(q.nm.size:Int):=by omega
 by_cases t1:60<q.sz.length
 ·have i1:(60:Int)<(q.sz.length:Int):=by omega
  go_enter Tryz.func5,Tryz.ntmps5
  go_wp2_with fail
  go_ret
  exact ⟨Zi (by rw [E.out,decide_eq_true t1];simp),Zd _ _⟩
 have i1:¬ (60:Int)<(q.sz.length:Int):=by omega
 by_cases t2:60<q.msgs.length
 ·have i2:(60:Int)<(q.msgs.length:Int):=by omega
  go_enter Tryz.func5,Tryz.ntmps5
  go_wp2_with fail
  go_ret
  exact ⟨Zi (by rw [E.out,decide_eq_true t2];simp),Zd _ _⟩
 have i2:¬ (60:Int)<(q.msgs.length:Int):=by omega
 by_cases t3:60<q.vals.length
 ·have i3:(60:Int)<(q.vals.length:Int):=by omega
  go_enter Tryz.func5,Tryz.ntmps5
  go_wp2_with fail
  go_ret
  exact ⟨Zi (by rw [E.out,decide_eq_true t3];simp),Zd _ _⟩
 have i3:¬ (60:Int)<(q.vals.length:Int):=by omega
 by_cases t4:60<q.res.length
 ·have i4:(60:Int)<(q.res.length:Int):=by omega
  go_enter Tryz.func5,Tryz.ntmps5
  go_wp2_with fail
  go_ret
  exact ⟨Zi (by rw [E.out,decide_eq_true t4];simp),Zd _ _⟩
 have i4:¬ (60:Int)<(q.res.length:Int):=by omega
 by_cases t5:60<q.init.length
 ·have i5:(60:Int)<(q.init.length:Int):=by omega
  go_enter Tryz.func5,Tryz.ntmps5
  go_wp2_with fail
  go_ret
  exact ⟨Zi (by rw [E.out,decide_eq_true t5];simp),Zd _ _⟩
 have i5:¬ (60:Int)<(q.init.length:Int):=by omega
 by_cases t6:60<q.lz.length
 ·have i6:(60:Int)<(q.lz.length:Int):=by omega
  go_enter Tryz.func5,Tryz.ntmps5
  go_wp2_with fail
  go_ret
  exact ⟨Zi (by rw [E.out,decide_eq_true t6];simp),Zd _ _⟩
 have i6:¬ (60:Int)<(q.lz.length:Int):=by omega
 by_cases t7:30<q.rz.length
 ·have i7:(30:Int)<(q.rz.length:Int):=by omega
  go_enter Tryz.func5,Tryz.ntmps5
  go_wp2_with fail
  go_ret
  exact ⟨Zi (by rw [E.out,decide_eq_true t7];simp),Zd _ _⟩
 have i7:¬ (30:Int)<(q.rz.length:Int):=by omega
 have E':=Lib.hid (show bigF q=(bigRk q.rz q.rz.length||bigN q.sz||bigN q.msgs||bigN q.vals) by rw [E.out,decide_eq_false t0,decide_eq_false t1,decide_eq_false t2,decide_eq_false t3,decide_eq_false t4,decide_eq_false t5,decide_eq_false t6,decide_eq_false t7];rfl)
 clear E
 go_enter Tryz.func5,Tryz.ntmps5
 go_wp2_with fail
 obtain ⟨W,hW⟩:∃ W,W=w.alloc (.cells #[.string q.nm,.int .i64 q.top,.slice a2 q.sz.length c2,.slice a3 q.msgs.length c3,.slice a4 q.vals.length c4,.int .i64 q.fzz,.slice a6 q.res.length c6,.slice a7 q.init.length c7,.slice a8 q.lz.length c8,.slice a9 q.rz.length c9] 27):=⟨_,rfl⟩
 rw [← hW]
 have HA2:=Lib.hid (show W.cell? ⟨w.heap.size,2,none⟩=some (.slice a2 q.sz.length c2) by rw [hW];exact (Zk _ _ _ 2 rfl).trans rfl)
 have HA3:=Lib.hid (show W.cell? ⟨w.heap.size,3,none⟩=some (.slice a3 q.msgs.length c3) by rw [hW];exact (Zk _ _ _ 3 rfl).trans rfl)
 have HA4:=Lib.hid (show W.cell? ⟨w.heap.size,4,none⟩=some (.slice a4 q.vals.length c4) by rw [hW];exact (Zk _ _ _ 4 rfl).trans rfl)
 have HA9:=Lib.hid (show W.cell? ⟨w.heap.size,9,none⟩=some (.slice a9 q.rz.length c9) by rw [hW];exact (Zk _ _ _ 9 rfl).trans rfl)
 have HBW:=Lib.hid (show Below w.heap.size w W by rw [hW];exact Zd _ _)
 clear hW
 go_loopw [3] (fun v wr=>∃ k:Nat,k≤q.rz.length∧v = .int .i64 k∧bigRk q.rz k=false∧Below W.heap.size W wr) (fun v _=>q.rz.length-(intOf v).toNat)
 case atStart=>exact ⟨0,Nat.zero_le _,rfl,rfl,Below.refl _ _⟩
 case round =>
  obtain ⟨k,hk,rfl,hs,hB⟩:=hrel
  have HS:=Lib.hid hs
  have HB:=Lib.hid (Ze HBW.out hB)
  have HBw:=Lib.hid hB
  have z9:=keep1 HA9.out hB
  by_cases h1:k<q.rz.length
  ·obtain ⟨b,off,cs,rfl,_,hb,_,hc,hR⟩:=G9.out.at k h1
   have HR:=Lib.hid (RuEl.stays _ _ _ _ _ hR HB.out)
   generalize hr:q.rz[k]'h1=r at HR hR
   have Hr:=Lib.hid hr
   obtain ⟨v6,v7,v8,v9,v12,v14,v15,v16,rfl,m0,m1,m2,m3,m4,m5,m6,m7,m8,m9,m10,m11,m12,m13,m14,m15,m16,m17⟩:=hR
   obtain ⟨a6r,c6r,rfl⟩:=m6.shape
   obtain ⟨a7r,c7r,rfl⟩:=m7.shape
   obtain ⟨a8r,c8r,rfl⟩:=m8.shape
   obtain ⟨a9r,c9r,rfl⟩:=m9.shape
   obtain ⟨a12r,c12r,rfl⟩:=m12.shape
   obtain ⟨a14r,c14r,rfl⟩:=m14.shape
   obtain ⟨a15r,c15r,rfl⟩:=m15.shape
   obtain ⟨a16r,c16r,rfl⟩:=m16.shape
   have g0:wr.cell? ⟨b,off+k*18,none⟩=some (.string r.nm):=keep1 (show w.cell? ⟨b,off+k*18,none⟩=some (.string r.nm) from hc 0 (by omega)) HB.out
   have g1:wr.cell? ⟨b,off+k*18+1,none⟩=some (.int .i64 r.kind):=keep1 (show w.cell? ⟨b,off+k*18+1,none⟩=some (.int .i64 r.kind) from hc 1 (by omega)) HB.out
   have g2:wr.cell? ⟨b,off+k*18+2,none⟩=some (.int .i64 r.frm):=keep1 (show w.cell? ⟨b,off+k*18+2,none⟩=some (.int .i64 r.frm) from hc 2 (by omega)) HB.out
   have g3:wr.cell? ⟨b,off+k*18+3,none⟩=some (.int .i64 r.to):=keep1 (show w.cell? ⟨b,off+k*18+3,none⟩=some (.int .i64 r.to) from hc 3 (by omega)) HB.out
   have g4:wr.cell? ⟨b,off+k*18+4,none⟩=some (.int .i64 r.pf):=keep1 (show w.cell? ⟨b,off+k*18+4,none⟩=some (.int .i64 r.pf) from hc 4 (by omega)) HB.out
   have g5:wr.cell? ⟨b,off+k*18+5,none⟩=some (.int .i64 r.pt):=keep1 (show w.cell? ⟨b,off+k*18+5,none⟩=some (.int .i64 r.pt) from hc 5 (by omega)) HB.out
   have g6:wr.cell? ⟨b,off+k*18+6,none⟩=some (.slice a6r r.resp.length c6r):=keep1 (show w.cell? ⟨b,off+k*18+6,none⟩=some (.slice a6r r.resp.length c6r) from hc 6 (by omega)) HB.out
   have g7:wr.cell? ⟨b,off+k*18+7,none⟩=some (.slice a7r r.gz.length c7r):=keep1 (show w.cell? ⟨b,off+k*18+7,none⟩=some (.slice a7r r.gz.length c7r) from hc 7 (by omega)) HB.out
   have g8:wr.cell? ⟨b,off+k*18+8,none⟩=some (.slice a8r r.ex.length c8r):=keep1 (show w.cell? ⟨b,off+k*18+8,none⟩=some (.slice a8r r.ex.length c8r) from hc 8 (by omega)) HB.out
   have g9:wr.cell? ⟨b,off+k*18+9,none⟩=some (.slice a9r r.fa.length c9r):=keep1 (show w.cell? ⟨b,off+k*18+9,none⟩=some (.slice a9r r.fa.length c9r) from hc 9 (by omega)) HB.out
   have g10:wr.cell? ⟨b,off+k*18+10,none⟩=some (.int .i64 r.rd):=keep1 (show w.cell? ⟨b,off+k*18+10,none⟩=some (.int .i64 r.rd) from hc 10 (by omega)) HB.out
   have g11:wr.cell? ⟨b,off+k*18+11,none⟩=some (.int .i64 r.wr):=keep1 (show w.cell? ⟨b,off+k*18+11,none⟩=some (.int .i64 r.wr) from hc 11 (by omega)) HB.out
   have g12:wr.cell? ⟨b,off+k*18+12,none⟩=some (.slice a12r r.send.length c12r):=keep1 (show w.cell? ⟨b,off+k*18+12,none⟩=some (.slice a12r r.send.length c12r) from hc 12 (by omega)) HB.out
   have g13:wr.cell? ⟨b,off+k*18+13,none⟩=some (.int .i64 r.pos):=keep1 (show w.cell? ⟨b,off+k*18+13,none⟩=some (.int .i64 r.pos) from hc 13 (by omega)) HB.out
   have g14:wr.cell? ⟨b,off+k*18+14,none⟩=some (.slice a14r r.left.length c14r):=keep1 (show w.cell? ⟨b,off+k*18+14,none⟩=some (.slice a14r r.left.length c14r) from hc 14 (by omega)) HB.out
   have g15:wr.cell? ⟨b,off+k*18+15,none⟩=some (.slice a15r r.right.length c15r):=keep1 (show w.cell? ⟨b,off+k*18+15,none⟩=some (.slice a15r r.right.length c15r) from hc 15 (by omega)) HB.out
   have g16:wr.cell? ⟨b,off+k*18+16,none⟩=some (.slice a16r r.pz.length c16r):=keep1 (show w.cell? ⟨b,off+k*18+16,none⟩=some (.slice a16r r.pz.length c16r) from hc 16 (by omega)) HB.out
   have g17:wr.cell? ⟨b,off+k*18+17,none⟩=some (.int .i64 r.dir):=keep1 (show w.cell? ⟨b,off+k*18+17,none⟩=some (.int .i64 r.dir) from hc 17 (by omega)) HB.out
   clear hB hs hc hr m0 m1 m2 m3 m4 m5 m6 m7 m8 m9 m10 m11 m12 m13 m14 m15 m16 m17
   cases h2:bigR r with
   | true =>
     have H2:=Lib.hid h2
     go_wp2_with (go_at_call 16;refine (ZbT HR.out).mono ?_;rintro e w1 ⟨rfl,hb1⟩)
     go_ret
     exact ⟨Zi (by rw [E'.out,bigRk_yes h1 (by rw [Hr.out];exact H2.out)];rfl),Ze HB.out hb1⟩
   | false =>
     have H2:=Lib.hid h2
     go_wp2_with (go_at_call 16;refine (ZbT HR.out).mono ?_;rintro e w1 ⟨rfl,hb1⟩)
     go_roundw
     case rel=>exact ⟨k+1,by omega,by go_num,bigRk_succ h1 HS.out (by rw [Hr.out];exact H2.out),Ze HBw.out hb1⟩
     case measure=>simp [intOf];omega
  have hke:q.rz.length=k:=by omega
  have HE:=Lib.hid (show bigRk q.rz q.rz.length=false by rw [hke];exact HS.out)
  clear hke
  have z2:=keep1 HA2.out hB
  have z3:=keep1 HA3.out hB
  have z4:=keep1 HA4.out hB
  clear hB hs
  cases n2:bigN q.sz with
  | true =>
    go_wp2_with (first | (go_at_call 17;(with_reducible refine (Yt (G2.out.below StrEl.stays HB.out)).mono ?_);rintro e w' ⟨rfl,rfl⟩) | (go_at_call 17;(with_reducible refine (Yt (G3.out.below StrEl.stays HB.out)).mono ?_);rintro e w' ⟨rfl,rfl⟩) | (go_at_call 17;(with_reducible refine (Yt (G4.out.below StrEl.stays HB.out)).mono ?_);rintro e w' ⟨rfl,rfl⟩))
    go_ret
    exact ⟨Zi (by rw [E'.out,HE.out,n2];rfl),HB.out⟩
  | false =>
    cases n3:bigN q.msgs with
    | true =>
      go_wp2_with (first | (go_at_call 17;(with_reducible refine (Yt (G2.out.below StrEl.stays HB.out)).mono ?_);rintro e w' ⟨rfl,rfl⟩) | (go_at_call 17;(with_reducible refine (Yt (G3.out.below StrEl.stays HB.out)).mono ?_);rintro e w' ⟨rfl,rfl⟩) | (go_at_call 17;(with_reducible refine (Yt (G4.out.below StrEl.stays HB.out)).mono ?_);rintro e w' ⟨rfl,rfl⟩))
      go_ret
      exact ⟨Zi (by rw [E'.out,HE.out,n2,n3];rfl),HB.out⟩
    | false =>
      go_wp2_with (first | (go_at_call 17;(with_reducible refine (Yt (G2.out.below StrEl.stays HB.out)).mono ?_);rintro e w' ⟨rfl,rfl⟩) | (go_at_call 17;(with_reducible refine (Yt (G3.out.below StrEl.stays HB.out)).mono ?_);rintro e w' ⟨rfl,rfl⟩) | (go_at_call 17;(with_reducible refine (Yt (G4.out.below StrEl.stays HB.out)).mono ?_);rintro e w' ⟨rfl,rfl⟩))
      go_ret
      exact ⟨Zi (by rw [E'.out,HE.out,n2,n3];rfl),HB.out⟩
end Go.Proofs.YtdbehgbggaaipaaGreat
