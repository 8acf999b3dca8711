import Derived.Test.YthefecaefbeidaaGreatGrpacmcpece
import Derived.Test.YthefecaefbeidaaGreatGrpjikmclcc
set_option linter.all false
namespace Go.Proofs.YthefecaefbeidaaGreat
open Go.RowKit Go.Deep
set_option maxHeartbeats 12800000
def noThrB (r:Ru):Bool:=decide (r.kind≠1)||decide (r.to≤r.frm)||decide (0<r.ex.length)||decide (0<r.fa.length)
def demB (r:Ru):Bool:=decide (0<r.fa.length)
variable {lo:Nat}{w:World}{cs:List Value}{r:Ru}
theorem Zb8 (h:RuEl lo w cs r) :
 Calls Tryz.prog 153 #[.agg cs.toArray] w fun e w'=>e = .returned (.bool (noThrB r))∧Below w.heap.size w w':=by
 obtain ⟨v6,v7,v8,v9,v12,v14,v15,v16,rfl,h0,h1,h2,h3,h4,h5,h6,h7,h8,h9,h10,h11,h12,h13,h14,h15,h16,h17⟩:=h
 obtain ⟨a8,c8,rfl⟩:=h8.shape
 obtain ⟨a9,c9,rfl⟩:=h9.shape
 obtain ⟨a6,c6,rfl⟩:=h6.shape
 obtain ⟨a7,c7,rfl⟩:=h7.shape
 obtain ⟨a12,c12,rfl⟩:=h12.shape
 obtain ⟨a14,c14,rfl⟩:=h14.shape
 obtain ⟨a15,c15,rfl⟩:=h15.shape
 obtain ⟨a16,c16,rfl⟩:=h16.shape
 clear h1 h2 h3 h4 h5 h6 h7 h8 h9 h10 h11 h12 h13 h14 h15 h16 h17
 generalize hX:r.ex.length=nx
 generalize hF:r.fa.length=nf
 have E:Hid (noThrB r=(decide (r.kind≠1)||decide (r.to≤r.frm)||decide (0<nx)||decide (0<nf))):=by show _=_;rw [← hX,← hF];rfl
 clear hX hF
 generalize r.kind=kd at E ⊢
 by_cases t0:kd=1
 rotate_left
 ·have i0:(kd != 1)=true:=by simpa using t0
  go_enter Tryz.func153,Tryz.ntmps153
  go_wp2_with fail
  go_ret
  exact ⟨Zh (by rw [E.out,decide_eq_true t0];simp),Ze _ _⟩
 subst t0
 by_cases t1:r.to≤r.frm
 ·have i1:decide (r.to≤r.frm)=true:=decide_eq_true t1
  go_enter Tryz.func153,Tryz.ntmps153
  go_wp2_with fail
  go_ret
  exact ⟨Zh (by rw [E.out,decide_eq_true t1];simp),Ze _ _⟩
 have i1:decide (r.to≤r.frm)=false:=decide_eq_false t1
 have i1':r.frm<r.to:=by omega
 by_cases t2:0<nx
 ·have i2:(0:Int)<(nx:Int):=by omega
  go_enter Tryz.func153,Tryz.ntmps153
  go_wp2_with fail
  go_ret
  exact ⟨Zh (by rw [E.out,decide_eq_true t2];simp),Ze _ _⟩
 have i2:¬ (0:Int)<(nx:Int):=by omega
 by_cases t3:0<nf
 ·have i3:(0:Int)<(nf:Int):=by omega
  go_enter Tryz.func153,Tryz.ntmps153
  go_wp2_with fail
  go_ret
  exact ⟨Zh (by rw [E.out,decide_eq_true t3];simp),Ze _ _⟩
 have i3:¬ (0:Int)<(nf:Int):=by omega
 go_enter Tryz.func153,Tryz.ntmps153
 go_wp2_with fail
 go_ret
 exact ⟨Zh (by rw [E.out,decide_eq_false (show ¬ r.to≤r.frm by omega),decide_eq_false t2,decide_eq_false t3];rfl),Ze _ _⟩
theorem dem_any (h:RuEl lo w cs r) :
 Calls Tryz.prog 154 #[.agg cs.toArray] w fun e w'=>e = .returned (.bool (demB r))∧Below w.heap.size w w':=by
 obtain ⟨v6,v7,v8,v9,v12,v14,v15,v16,rfl,h0,h1,h2,h3,h4,h5,h6,h7,h8,h9,h10,h11,h12,h13,h14,h15,h16,h17⟩:=h
 obtain ⟨a8,c8,rfl⟩:=h8.shape
 obtain ⟨a9,c9,rfl⟩:=h9.shape
 obtain ⟨a6,c6,rfl⟩:=h6.shape
 obtain ⟨a7,c7,rfl⟩:=h7.shape
 obtain ⟨a12,c12,rfl⟩:=h12.shape
 obtain ⟨a14,c14,rfl⟩:=h14.shape
 obtain ⟨a15,c15,rfl⟩:=h15.shape
 obtain ⟨a16,c16,rfl⟩:=h16.shape
 clear h1 h2 h3 h4 h5 h6 h7 h8 h9 h10 h11 h12 h13 h14 h15 h16 h17
 generalize hF:r.fa.length=nf
 have E:Hid (demB r=decide (0<nf)):=by show _=_;rw [← hF];rfl
 clear hF
 by_cases t3:0<nf
 ·have i3:(0:Int)<(nf:Int):=by omega
  go_enter Tryz.func154,Tryz.ntmps154
  go_wp2_with fail
  go_ret
  exact ⟨Zh (by rw [E.out,decide_eq_true t3]),Ze _ _⟩
 have i3:¬ (0:Int)<(nf:Int):=by omega
 go_enter Tryz.func154,Tryz.ntmps154
 go_wp2_with fail
 go_ret
 exact ⟨Zh (by rw [E.out,decide_eq_false t3]),Ze _ _⟩
variable {v:Value}{xs:List Ru}
theorem ZaF (h:IsSl 18 RuEl lo w v xs) :
 Calls Tryz.prog 192 #[v,.func (.func 153) #[] #[]] w fun e w'=>∃ i:Int,e = .returned (.int .i64 i)∧(decide (0≤i))=xs.any noThrB∧Below w.heap.size w w':=by
 have hn:=h.bound
 have H:=Lib.hid h
 rcases YL h with ⟨rfl,a,c,rfl⟩ | ⟨b,off,c,rfl,hbw,_⟩
 ·clear h
  go_enter Tryz.func192,Tryz.ntmps192
  go_wp2_with fail
  refine wp_loop_rounds 1 ?_
  rw [rounds_succ]
  go_wp2_with fail
  go_ret
  exact ⟨-1,rfl,rfl,Below.refl _ _⟩
 generalize hN:xs.length=n at hn
 have HN:=Lib.hid hN
 rw [hN] at H
 clear h hN
 go_enter Tryz.func192,Tryz.ntmps192
 go_wp2_with fail
 go_loopw [8] (fun u wr=>∃ k:Nat,k≤n∧u = .int .i64 k∧(xs.take k).any noThrB=false∧Below w.heap.size w wr) (fun u _=>n-(intOf u).toNat)
 case atStart=>exact ⟨0,Nat.zero_le _,rfl,rfl,Below.refl _ _⟩
 case round =>
  obtain ⟨k,hk,rfl,hs,hB⟩:=hrel
  have HS:=Lib.hid hs
  have HB:=Lib.hid hB
  clear hs hB
  by_cases h1:k<n
  ·have hkx:k<xs.length:=by rw [HN.out];exact h1
   obtain ⟨b',off',cs,hab,_,_,hcl,hcc,hel⟩:=H.out.at k hkx
   cases hab
   have HL:=Lib.hid hcl
   have R1:=Lib.hid (rangeBelow (rangeOf hcl hcc) HB.out)
   have HE:=Lib.hid (hel.below HB.out)
   have HYES:=Lib.hid (fun h=>Zdd (p:=noThrB) hkx h)
   have HNO:=Lib.hid (fun h=>ZbD (p:=noThrB) hkx HS.out h)
   clear hcl hcc hel
   generalize xs[k]=x at HE HYES HNO
   go_upto_region 4 with (fail)
   refine wp_region_lit ?_
   iterate 4
    refine wpList_step fun K hK => ?_
    go_simp
    refine hK _ _ ?_
    clear hK K
   refine ZaZ Tryz.underlying98 Y9 (by rfl) (.tmp 14) (by rfl) b (off+k*18) cs (by rfl) HL.out R1.out ?_
   cases he:noThrB x with
   | true =>
     have HF:=Lib.hid he
     clear he
     go_wp2_with (go_at_call 153;(with_reducible refine (Zb8 HE.out).mono ?_);rw [HF.out];rintro e w1 ⟨rfl,hb1⟩;have HB1:=Lib.hid hb1;clear hb1)
     go_ret
     exact ⟨k,rfl,by rw [HYES.out HF.out];simp,Zf HB.out HB1.out⟩
   | false =>
     have HF:=Lib.hid he
     clear he
     go_wp2_with (go_at_call 153;(with_reducible refine (Zb8 HE.out).mono ?_);rw [HF.out];rintro e w1 ⟨rfl,hb1⟩;have HB1:=Lib.hid hb1;clear hb1)
     go_roundw
     case rel=>exact ⟨k+1,by omega,by go_num,HNO.out HF.out,Zf HB.out HB1.out⟩
     case measure=>simp [intOf];omega
  have HE:=Lib.hid (Zde (by rw [HN.out];omega) HS.out)
  go_wp2_with fail
  go_ret
  exact ⟨-1,rfl,by rw [HE.out];rfl,HB.out⟩
theorem ZQ (h:IsSl 18 RuEl lo w v xs) :
 Calls Tryz.prog 152 #[v,.func (.func 153) #[] #[]] w fun e w'=>e = .returned (.bool (xs.any noThrB))∧Below w.heap.size w w':=by
 have HI:=Lib.hid (ZaF h)
 clear h
 go_enter Tryz.func152,Tryz.ntmps152
 go_wp2_with (go_at_call 192;refine Calls.mono (show Calls _ _ _ _ _ from HI.out) ?_;rintro e w1 ⟨i,rfl,hi,hb⟩;have HI2:=Lib.hid hi;have HB:=Lib.hid hb;clear hi hb)
 go_ret
 exact ⟨Zh HI2.out,HB.out⟩
theorem ZcB (h:IsSl 18 RuEl lo w v xs) :
 Calls Tryz.prog 192 #[v,.func (.func 154) #[] #[]] w fun e w'=>∃ i:Int,e = .returned (.int .i64 i)∧(decide (0≤i))=xs.any demB∧Below w.heap.size w w':=by
 have hn:=h.bound
 have H:=Lib.hid h
 rcases YL h with ⟨rfl,a,c,rfl⟩ | ⟨b,off,c,rfl,hbw,_⟩
 ·clear h
  go_enter Tryz.func192,Tryz.ntmps192
  go_wp2_with fail
  refine wp_loop_rounds 1 ?_
  rw [rounds_succ]
  go_wp2_with fail
  go_ret
  exact ⟨-1,rfl,rfl,Below.refl _ _⟩
 generalize hN:xs.length=n at hn
 have HN:=Lib.hid hN
 rw [hN] at H
 clear h hN
 go_enter Tryz.func192,Tryz.ntmps192
 go_wp2_with fail
 go_loopw [8] (fun u wr=>∃ k:Nat,k≤n∧u = .int .i64 k∧(xs.take k).any demB=false∧Below w.heap.size w wr) (fun u _=>n-(intOf u).toNat)
 case atStart=>exact ⟨0,Nat.zero_le _,rfl,rfl,Below.refl _ _⟩
 case round =>
  obtain ⟨k,hk,rfl,hs,hB⟩:=hrel
  have HS:=Lib.hid hs
  have HB:=Lib.hid hB
  clear hs hB
  by_cases h1:k<n
  ·have hkx:k<xs.length:=by rw [HN.out];exact h1
   obtain ⟨b',off',cs,hab,_,_,hcl,hcc,hel⟩:=H.out.at k hkx
   cases hab
   have HL:=Lib.hid hcl
   have R1:=Lib.hid (rangeBelow (rangeOf hcl hcc) HB.out)
   have HE:=Lib.hid (hel.below HB.out)
   have HYES:=Lib.hid (fun h=>Zdd (p:=demB) hkx h)
   have HNO:=Lib.hid (fun h=>ZbD (p:=demB) hkx HS.out h)
   clear hcl hcc hel
   generalize xs[k]=x at HE HYES HNO
   go_upto_region 4 with (fail)
   refine wp_region_lit ?_
   iterate 4
    refine wpList_step fun K hK => ?_
    go_simp
    refine hK _ _ ?_
    clear hK K
   refine ZaZ Tryz.underlying98 Y9 (by rfl) (.tmp 14) (by rfl) b (off+k*18) cs (by rfl) HL.out R1.out ?_
   cases he:demB x with
   | true =>
     have HF:=Lib.hid he
     clear he
     go_wp2_with (go_at_call 154;(with_reducible refine (dem_any HE.out).mono ?_);rw [HF.out];rintro e w1 ⟨rfl,hb1⟩;have HB1:=Lib.hid hb1;clear hb1)
     go_ret
     exact ⟨k,rfl,by rw [HYES.out HF.out];simp,Zf HB.out HB1.out⟩
   | false =>
     have HF:=Lib.hid he
     clear he
     go_wp2_with (go_at_call 154;(with_reducible refine (dem_any HE.out).mono ?_);rw [HF.out];rintro e w1 ⟨rfl,hb1⟩;have HB1:=Lib.hid hb1;clear hb1)
     go_roundw
     case rel=>exact ⟨k+1,by omega,by go_num,HNO.out HF.out,Zf HB.out HB1.out⟩
     case measure=>simp [intOf];omega
  have HE:=Lib.hid (Zde (by rw [HN.out];omega) HS.out)
  go_wp2_with fail
  go_ret
  exact ⟨-1,rfl,by rw [HE.out];rfl,HB.out⟩
theorem ZZ (h:IsSl 18 RuEl lo w v xs) :
 Calls Tryz.prog 152 #[v,.func (.func 154) #[] #[]] w fun e w'=>e = .returned (.bool (xs.any demB))∧Below w.heap.size w w':=by
 have HI:=Lib.hid (ZcB h)
 clear h
 go_enter Tryz.func152,Tryz.ntmps152
 go_wp2_with (go_at_call 192;refine Calls.mono (show Calls _ _ _ _ _ from HI.out) ?_;rintro e w1 ⟨i,rfl,hi,hb⟩;have HI2:=Lib.hid hi;have HB:=Lib.hid hb;clear hi hb)
 go_ret
 exact ⟨Zh HI2.out,HB.out⟩
def plainQ (q:Fm):Bool:=decide (q.top=1)&&decide (q.fz=0)&&decide (q.msgs.length=0)&&decide (q.res.length=0)
theorem Zc4 {q:Fm} (hq:IsFam lo w v q) :
 Calls Tryz.prog 151 #[v] w fun e w'=>e = .returned (.bool (plainQ q))∧Below w.heap.size w w':=by
 obtain ⟨v2,v3,v4,v6,v7,v8,v9,rfl,_,_,h2,h3,h4,_,h6,h7,h8,h9⟩:=hq
 obtain ⟨a2,c2,rfl⟩:=h2.shape
 obtain ⟨a3,c3,rfl⟩:=h3.shape
 obtain ⟨a4,c4,rfl⟩:=h4.shape
 obtain ⟨a6,c6,rfl⟩:=h6.shape
 obtain ⟨a7,c7,rfl⟩:=h7.shape
 obtain ⟨a8,c8,rfl⟩:=h8.shape
 obtain ⟨a9,c9,rfl⟩:=h9.shape
 clear h2 h3 h4 h6 h7 h8 h9
 generalize hM:q.msgs.length=m
 generalize hR:q.res.length=n
 generalize hT:q.top=tp
 generalize hF:q.fz=ft
 have E:Hid (plainQ q=(decide (tp=1)&&decide (ft=0)&&decide (m=0)&&decide (n=0))):=by show _=_;rw [← hM,← hR,← hT,← hF];rfl
 clear hM hR hT hF
 by_cases t0:tp=1
 rotate_left
 ·have i0:(tp==1)=false:=by simpa using t0
  go_enter Tryz.func151,Tryz.ntmps151
  go_wp2_with fail
  go_ret
  exact ⟨Zh (by rw [E.out,decide_eq_false t0];simp),Ze _ _⟩
 subst t0
 by_cases t1:ft=0
 rotate_left
 ·have i1:(ft==0)=false:=by simpa using t1
  go_enter Tryz.func151,Tryz.ntmps151
  go_wp2_with fail
  go_ret
  exact ⟨Zh (by rw [E.out,decide_eq_false t1];simp),Ze _ _⟩
 subst t1
 by_cases t2:m=0
 rotate_left
 ·have i2:((m:Int)==0)=false:=by simpa using t2
  go_enter Tryz.func151,Tryz.ntmps151
  go_wp2_with fail
  go_ret
  exact ⟨Zh (by rw [E.out,decide_eq_false t2];simp),Ze _ _⟩
 subst t2
 by_cases t3:n=0
 rotate_left
 ·have i2:((n:Int)==0)=false:=by simpa using t3
  go_enter Tryz.func151,Tryz.ntmps151
  go_wp2_with fail
  go_ret
  exact ⟨Zh (by rw [E.out,decide_eq_false t3];simp),Ze _ _⟩
 subst t3
 go_enter Tryz.func151,Tryz.ntmps151
 go_wp2_with fail
 go_ret
 exact ⟨Zh (by rw [E.out];rfl),Ze _ _⟩
end Go.Proofs.YthefecaefbeidaaGreat
