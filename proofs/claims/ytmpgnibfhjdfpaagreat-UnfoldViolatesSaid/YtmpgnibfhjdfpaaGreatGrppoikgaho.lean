import Derived.Test.YtmpgnibfhjdfpaaGreatProg
import Derived.Shelf.Strconv.Itoa3
import Derived.Lib.AppendIntMem
import Derived.Lib.ItoaLen
import Derived.Lib.Hide
import Derived.WalkSpells
import Derived.StillTailTactics
import Derived.Deep.RegionHeld3
import Derived.Laws.IdiomCopy
import Derived.Test.YtmpgnibfhjdfpaaGreatGrpcdiljnim
import Derived.Test.YtmpgnibfhjdfpaaGreatGrphhmpajpk
import Derived.Test.YtmpgnibfhjdfpaaGreatGrpcjplndde
import Derived.Test.YtmpgnibfhjdfpaaGreatGrpaggajjjj
import Derived.Test.YtmpgnibfhjdfpaaGreatGrpmgeggbob
import Derived.Test.YtmpgnibfhjdfpaaGreatGrpjhbplalh
import Derived.Test.YtmpgnibfhjdfpaaGreatGrpnbibgnod
set_option linter.all false
namespace Go.Proofs.YtmpgnibfhjdfpaaGreat
open Go.RowKit Go.Deep Tryz
set_option maxHeartbeats 12800000
def IsStrs (lo:Nat) (w:World) (v:Value) (xs:List ByteArray):Prop :=
 ∃ (a:Option Addr) (cap:Nat),v = .slice a xs.length cap/\xs.length<=cap/\cap<=maxLen/\((∀ x∈xs,x.size<=maxLen)/\(a=none->cap=0)) /\
  (xs=[]\/∃ b off,a=some ⟨b,off,none⟩/\lo<=b/\b<w.heap.size/\∀ i,i<xs.length->w.cell? ⟨b,off+i,none⟩=some (.string (xs.getD i ⟨#[]⟩)))
variable {lo:Nat}{w w':World}{v:Value}{xs:List ByteArray}
theorem IsStrs.below (h:IsStrs lo w v xs) (hb:Below w.heap.size w w'):IsStrs lo w' v xs:=by
 obtain ⟨a,cap,hv,hl,hm,hi,hc⟩:=h
 refine ⟨a,cap,hv,hl,hm,hi,?_⟩
 rcases hc with hc | ⟨b,off,ha,hlo,hbk,hcell⟩
 ·exact .inl hc
 exact .inr ⟨b,off,ha,hlo,Nat.lt_of_lt_of_le hbk hb.size,λi hi=>(hb.cell (p:=⟨b,off+i,none⟩) hbk).trans (hcell i hi)⟩
theorem IsStrs.mono {lo lo':Nat} (h:IsStrs lo w v xs) (hl:lo'<=lo):IsStrs lo' w v xs:=by
 obtain ⟨a,cap,hv,h1,hm,hi,hc⟩:=h
 refine ⟨a,cap,hv,h1,hm,hi,?_⟩
 rcases hc with hc | ⟨b,off,ha,hlo,r⟩
 ·exact .inl hc
 exact .inr ⟨b,off,ha,Nat.le_trans hl hlo,r⟩
theorem IsStrs.shape (h:IsStrs lo w v xs):∃ a cap,v = .slice a xs.length cap:=by
 obtain ⟨a,cap,hv,_⟩:=h
 exact ⟨a,cap,hv⟩
def hasT (xs:List ByteArray) (s:ByteArray):Bool:=xs.any λx=>x.toList==s.toList
def hasK (xs:List ByteArray) (s:ByteArray) (k:Nat):Bool:=(xs.take k).any λx=>x.toList==s.toList
variable {s:ByteArray}{k:Nat}
theorem hasK_succ (h:k<xs.length) (hk:hasK xs s k=false) (hp:(xs[k].toList==s.toList)=false):hasK xs s (k+1)=false:=by
 unfold hasK at *;rw [List.take_succ_eq_append_getElem h,List.any_append,hk];simp only [List.any_cons,List.any_nil,hp,Bool.or_self]
theorem hasT_yes (h:k<xs.length) (hp:(xs[k].toList==s.toList)=true):hasT xs s=true:=by
 unfold hasT;rw [List.any_eq_true];exact ⟨xs[k],List.getElem_mem h,hp⟩
theorem hasT_no (h:k=xs.length) (hk:hasK xs s k=false):hasT xs s=false:=by
 unfold hasK at hk;rwa [List.take_of_length_le (by omega)] at hk
theorem ZeX (b off n cap:Nat) (s:ByteArray) (w:World) (xs:List ByteArray) (hx:xs.length=n) (hn:n<=9223372036854775807)
 (hc:∀ i,i<n->w.cell? ⟨b,off+i,none⟩=some (.string (xs.getD i ⟨#[]⟩))) :
 Calls Tryz.prog 107 #[.slice (some ⟨b,off,none⟩) n cap,.string s] w λe w'=>e = .returned (.bool (hasT xs s))/\w=w':=by
 go_enter func107,ntmps107
 go_wp2_with fail
 go_loop [5] (λv=>∃ k:Nat,k<=n/\v = .int .i64 k/\hasK xs s k=false) (λv=>n-(intOf v).toNat)
 case atStart=>exact ⟨0,Nat.zero_le _,rfl,rfl⟩
 case round =>
  obtain ⟨k,hk,rfl,hall⟩:=hrel
  have HA:=Lib.hid hall
  clear hall
  by_cases h1:k<n
  ·have hxk:xs.getD k ⟨#[]⟩=xs[k]:=by simp [List.getD,List.getElem?_eq_getElem (show k<xs.length by omega)]
   have g1:w.cell? ⟨b,off+k,none⟩=some (.string xs[k]):=(hc k h1).trans (by rw [hxk])
   clear hxk
   cases h2:(xs[k].toList==s.toList) with
   | true =>
     go_wp2_with fail
     go_ret
     exact ⟨Zt (by rw [hasT_yes (k:=k) (by omega) h2]),rfl⟩
   | false =>
     go_wp2_with fail
     go_round
     case rel=>exact ⟨k+1,by omega,by go_num,hasK_succ (by omega) HA.out h2⟩
     case measure=>simp [intOf];omega
  go_wp2_with fail
  go_ret
  exact ⟨Zt (by rw [hasT_no (by omega) HA.out]),rfl⟩
theorem ZdG (a:Option Addr) (cap:Nat) (s:ByteArray) (w:World) :
 Calls Tryz.prog 107 #[.slice a 0 cap,.string s] w λe w'=>e = .returned (.bool (hasT [] s))/\w=w':=by
 go_enter func107,ntmps107
 go_wp2_with fail
 refine wp_loop_rounds 1 ?_
 rw [rounds_succ]
 go_wp2_with fail
 go_ret
 exact ⟨rfl,rfl⟩
theorem Zcc (s:ByteArray) (h:IsStrs lo w v xs) :
 Calls Tryz.prog 107 #[v,.string s] w λe w'=>e = .returned (.bool (hasT xs s))/\w=w':=by
 obtain ⟨a,cap,rfl,hl,hm,hi,hc⟩:=h
 unfold maxLen at hm
 rcases hc with rfl | ⟨b,off,rfl,_,hb,hc⟩
 ·exact ZdG _ _ _ _
 exact ZeX _ _ _ _ _ _ _ rfl (by omega) hc
theorem Zc8 (w:World) (t:TypeId) (xs:List ByteArray) (n:Nat) (cs:Array Value) (hn:n=xs.length) (hc:cs=(xs.map Value.string).toArray) (hm:xs.length<=maxLen) (hx:∀ x∈xs,x.size<=maxLen) :
 IsStrs w.heap.size (w.alloc (.cells cs t)) (.slice (some ⟨w.heap.size,0,none⟩) n n) xs:=by
 subst hn;subst hc
 refine ⟨_,_,rfl,Nat.le_refl _,hm,⟨hx,λe=>by cases e⟩,.inr ⟨w.heap.size,0,rfl,Nat.le_refl _,by simp,λi hi => ?_⟩⟩
 simp [hi]
theorem resW_small:∀ x∈resW.map (λl=>(⟨l.toArray⟩:ByteArray)),x.size<=maxLen:=by
 intro x hx
 obtain ⟨l,hl,rfl⟩:=List.mem_map.1 hx
 have:∀ l∈resW,l.length<=12:=by decide
 have h:=this l hl
 have e:(⟨l.toArray⟩:ByteArray).size=l.length:=by simp [ByteArray.size]
 rw [e];unfold maxLen;omega
set_option maxRecDepth 100000 in
theorem Zd8 (w:World) :
 Calls Tryz.prog 111 #[] w λe w'=>∃ v,e = .returned v/\IsStrs w.heap.size w' v (resW.map λl=>⟨l.toArray⟩)/\Below w.heap.size w w':=by
 go_enter func111,ntmps111
 go_wp2
 go_ret
 exact ⟨_,rfl,Zc8 w _ _ 43 _ rfl rfl (by unfold maxLen;simp [resW]) resW_small,Zm _ _⟩
theorem hasT_resW (s:ByteArray):hasT (resW.map λl=>⟨l.toArray⟩) s=resB s.toList:=by
 unfold hasT resB
 rw [List.any_map]
 congr 1
 funext l
 simp only [Function.comp,ByteArray.toList_mk]
 rw [Bool.eq_iff_iff,beq_iff_eq,beq_iff_eq];exact eq_comm
theorem Zcj (s:ByteArray) (w:World) (hs:s.size<=maxLen) :
 Calls Tryz.prog 72 #[.string s] w λe w'=>e = .returned (.bool (nameB s.toList))/\Below w.heap.size w w':=by
 unfold maxLen at hs
 have e:Hid (nameB s.toList=(decide (1<=s.toList.length)&&decide (s.toList.length<=12) && !resB s.toList&&upB s.toList s.toList.length)):=(rfl:nameB _=_)
 have el:=Lib.hid (YP s)
 have E1:inB 1 12 (s.size:Int)=(decide (1<=s.size)&&decide (s.size<=12)):=by unfold inB;congr 1<;>(rw [decide_eq_decide];omega)
 by_cases h1:1<=s.size/\s.size<=12
 ·have h2:inB 1 12 (s.size:Int)=true:=by rw [E1];simp [h1]
  clear E1
  have hp0:0<s.size:=by omega
  have hg0:s.toList[0]'(by rw [YP];exact hp0)=s[0]:=by have:=Zdr s 0 hp0;rw [<- this];simp [List.getD,YP,hp0]
  have E0:leB s[0]=(decide (97<=(s[0].toNat:Int))&&decide ((s[0].toNat:Int)<=122)):=rfl
  by_cases f1:97<=(s[0].toNat:Int)
  ·by_cases f2:(s[0].toNat:Int)<=122
   ·have HL:=Lib.hid (show leB s[0]=true by rw [E0];simp only [f1,f2,decide_true,Bool.and_self])
    have HG:=Lib.hid hg0
    clear E0 hg0
    go_enter func72,ntmps72
    go_wp2_with (first | (go_at_call 74;refine (YC _ _ _ _).mono ?_;rintro e w' ⟨rfl,rfl⟩))
    go_loop [3] (λv=>∃ k:Nat,k<=s.size/\v = .int .i64 k/\reB s.toList k=true) (λv=>s.size-(intOf v).toNat)
    case atStart=>exact ⟨0,Nat.zero_le _,rfl,rfl⟩
    case round =>
     obtain ⟨k,hk,rfl,hup⟩:=hrel
     have HU:=Lib.hid hup
     clear hup
     by_cases hlt:k<s.size
     ·have hgk:s.toList[k]'(by rw [YP];exact hlt)=s[k]:=by have:=Zdr s k hlt;rw [<- this];simp [List.getD,YP,hlt]
      have HY:=Lib.hid (λ(h:(leB s[k]||diB s[k])=true)=>reB_succ (by rw [YP];exact hlt) HU.out (by rw [hgk];exact h))
      have HN:=Lib.hid (λ(h:(leB s[k]||diB s[k])=false)=>reB_no (l:=s.toList) (k:=k) (by rw [YP];exact hlt) (by rw [hgk];exact h))
      clear hgk
      have hcl:(97<=(s[k].toNat:Int)/\(s[k].toNat:Int)<=122)\/(48<=(s[k].toNat:Int)/\(s[k].toNat:Int)<=57)\/(s[k].toNat:Int)=95\/(s[k].toNat:Int)<48\/(57<(s[k].toNat:Int)/\(s[k].toNat:Int)<97/\(s[k].toNat:Int)≠95)\/122<(s[k].toNat:Int):=by omega
      rcases hcl with ⟨c1,c2⟩ | ⟨c1,c2⟩ | c1 | c1 | ⟨c1,c2,c3⟩ | c1
      ·have HA:=Lib.hid (HY.out (by have:leB s[k]=true:=(by unfold leB;simp;omega);rw [this];rfl))
       clear HY HN
       go_wp2_with fail
       all_goals
        go_round
        case rel=>exact ⟨k+1,by omega,by go_num,HA.out⟩
        case measure=>simp [intOf];omega
      ·have HA:=Lib.hid (HY.out (by have:diB s[k]=true:=(by unfold diB;simp;omega);rw [this];simp))
       have c3:(s[k].toNat:Int)<97:=by omega
       clear HY HN
       go_wp2_with fail
       all_goals
        go_round
        case rel=>exact ⟨k+1,by omega,by go_num,HA.out⟩
        case measure=>simp [intOf];omega
      ·have HA:=Lib.hid (HY.out (by have:diB s[k]=true:=(by unfold diB;simp;omega);rw [this];simp))
       have c2:57<(s[k].toNat:Int):=by omega
       have c3:(s[k].toNat:Int)<97:=by omega
       have c4:((s[k].toNat:Int)==95)=true:=by rw [beq_iff_eq];exact c1
       have c5:((s[k].toNat:Int) != 95)=false:=by rw [bne,c4];rfl
       have d0:48<=(s[k].toNat:Int):=by omega
       clear c1
       clear HY HN
       go_wp2_with fail
       all_goals
        go_round
        case rel=>exact ⟨k+1,by omega,by go_num,HA.out⟩
        case measure=>simp [intOf];omega
      ·have HA:=Lib.hid (HN.out (by have a:leB s[k]=false:=(by unfold leB;simp;omega);have b:diB s[k]=false:=(by unfold diB;simp;omega);rw [a,b];rfl))
       have c4:((s[k].toNat:Int)==95)=false:=by rw [beq_eq_false_iff_ne];omega
       have c5:((s[k].toNat:Int) != 95)=true:=by rw [bne,c4];rfl
       clear HY HN
       go_wp2_with fail
       all_goals
        go_ret
        exact ⟨Zt (by rw [e.out,Zbw (by rw [YP];exact hp0),HA.out];simp),Below.refl _ _⟩
      ·have HA:=Lib.hid (HN.out (by have a:leB s[k]=false:=(by unfold leB;simp;omega);have b:diB s[k]=false:=(by unfold diB;simp;omega);rw [a,b];rfl))
       have c4:((s[k].toNat:Int)==95)=false:=by rw [beq_eq_false_iff_ne];omega
       have c5:((s[k].toNat:Int) != 95)=true:=by rw [bne,c4];rfl
       have d0:48<=(s[k].toNat:Int):=by omega
       have d1:decide ((s[k].toNat:Int)<=57)=false:=by rw [decide_eq_false_iff_not];omega
       clear c3
       clear HY HN
       go_wp2_with fail
       all_goals
        go_ret
        exact ⟨Zt (by rw [e.out,Zbw (by rw [YP];exact hp0),HA.out];simp),Below.refl _ _⟩
      have HA:=Lib.hid (HN.out (by have a:leB s[k]=false:=(by unfold leB;simp;omega);have b:diB s[k]=false:=(by unfold diB;simp;omega);rw [a,b];rfl))
      have c4:((s[k].toNat:Int)==95)=false:=by rw [beq_eq_false_iff_ne];omega
      have c5:((s[k].toNat:Int) != 95)=true:=by rw [bne,c4];rfl
      have d0:48<=(s[k].toNat:Int):=by omega
      have d1:decide ((s[k].toNat:Int)<=57)=false:=by rw [decide_eq_false_iff_not];omega
      have d2:decide ((s[k].toNat:Int)<=122)=false:=by rw [decide_eq_false_iff_not];omega
      have d3:97<=(s[k].toNat:Int):=by omega
      have d4:57<(s[k].toNat:Int):=by omega
      clear HY HN
      go_wp2_with fail
      all_goals
       go_ret
       exact ⟨Zt (by rw [e.out,Zbw (by rw [YP];exact hp0),HA.out];simp),Below.refl _ _⟩
     have HE:=Lib.hid (show nameB s.toList = !resB s.toList by
      rw [e.out,Zbw (by rw [YP];exact hp0),HG.out,HL.out,el.out,decide_eq_true h1.1,decide_eq_true h1.2]
      have:s.size=k:=by omega
      rw [this,HU.out];simp)
     clear HU
     go_wp2_with (first | (go_at_call 111;refine (Zd8 _).mono ?_;rintro e w1 ⟨v,rfl,hv,hb1⟩;have HV:=Lib.hid hv;clear hv) | (go_at_call 107;refine (Zcc _ HV.out).mono ?_;rintro e w' ⟨rfl,rfl⟩))
     go_ret
     exact ⟨Zt (by rw [hasT_resW,HE.out]),hb1⟩
   have f2':(122:Int)<(s[0].toNat:Int):=by omega
   have HL:=Lib.hid (show leB s[0]=false by rw [E0];simp only [f1,f2,decide_true,decide_false,Bool.and_false])
   have HG:=Lib.hid hg0
   clear E0 hg0
   go_enter func72,ntmps72
   go_wp2_with (first | (go_at_call 74;refine (YC _ _ _ _).mono ?_;rintro e w' ⟨rfl,rfl⟩))
   go_ret
   exact ⟨Zt (by rw [e.out,ZdL (by rw [YP];exact hp0) (by rw [HG.out];exact HL.out)];simp),Below.refl _ _⟩
  have f1':(s[0].toNat:Int)<97:=by omega
  have HL:=Lib.hid (show leB s[0]=false by rw [E0];simp only [f1,decide_false,Bool.false_and])
  have HG:=Lib.hid hg0
  clear E0 hg0
  go_enter func72,ntmps72
  go_wp2_with (first | (go_at_call 74;refine (YC _ _ _ _).mono ?_;rintro e w' ⟨rfl,rfl⟩))
  go_ret
  exact ⟨Zt (by rw [e.out,ZdL (by rw [YP];exact hp0) (by rw [HG.out];exact HL.out)];simp),Below.refl _ _⟩
 have h2:inB 1 12 (s.size:Int)=false:=by rw [E1];simp;omega
 clear E1
 go_enter func72,ntmps72
 go_wp2_with (first | (go_at_call 74;refine (YC _ _ _ _).mono ?_;rintro e w' ⟨rfl,rfl⟩))
 go_ret
 exact ⟨Zt (by rw [e.out,el.out];have:=h1;revert this;by_cases a:1<=s.size<;>by_cases b:s.size<=12<;>simp [a,b]),Below.refl _ _⟩
def bigNk (xs:List ByteArray) (k:Nat):Bool:=(xs.take k).any λs=>decide (500<s.size)
theorem bigNk_succ (h:k<xs.length) (hk:bigNk xs k=false) (hp:¬ 500<xs[k].size):bigNk xs (k+1)=false:=by
 unfold bigNk at *;rw [List.take_succ_eq_append_getElem h,List.any_append,hk];simp;omega
theorem bigNk_yes (h:k<xs.length) (hp:500<xs[k].size):bigNk xs xs.length=true:=by
 unfold bigNk;rw [List.take_length,List.any_eq_true];exact ⟨xs[k],List.getElem_mem h,by simpa using hp⟩
def bigN (xs:List ByteArray):Bool:=bigNk xs xs.length
def bigR (r:Ru):Bool:=decide (500<r.nm.size)||decide (60<r.resp.length)||decide (60<r.gz.length)||decide (60<r.ex.length)||decide (60<r.fa.length)||decide (60<r.send.length)||decide (60<r.left.length)||decide (60<r.right.length)||decide (60<r.pz.length)
def bigRk (xs:List Ru) (k:Nat):Bool:=(xs.take k).any bigR
theorem bigRk_succ {xs:List Ru} (h:k<xs.length) (hk:bigRk xs k=false) (hp:bigR xs[k]=false):bigRk xs (k+1)=false:=by
 unfold bigRk at *;rw [List.take_succ_eq_append_getElem h,List.any_append,hk];simp [hp]
theorem bigRk_yes {xs:List Ru} (h:k<xs.length) (hp:bigR xs[k]=true):bigRk xs xs.length=true:=by
 unfold bigRk;rw [List.take_length,List.any_eq_true];exact ⟨xs[k],List.getElem_mem h,hp⟩
def bigF (q:Fm):Bool:=decide (500<q.nm.size)||decide (60<q.sz.length)||decide (60<q.msgs.length)||decide (60<q.vals.length)||decide (60<q.res.length)||decide (60<q.init.length)||decide (60<q.lz.length)||decide (30<q.rz.length)||bigRk q.rz q.rz.length||bigN q.sz||bigN q.msgs||bigN q.vals
set_option maxRecDepth 100000
set_option maxHeartbeats 6400000
variable {J:World->Prop}
variable {r:Ru}
theorem ZaJ (h:500<r.nm.size\/60<r.resp.length\/60<r.gz.length\/60<r.ex.length\/60<r.fa.length\/60<r.send.length\/60<r.left.length\/60<r.right.length\/60<r.pz.length):bigR r=true:=by
 unfold bigR
 simp only [Bool.or_eq_true,decide_eq_true_eq]
 omega
theorem bigR_f (h:¬ (500<r.nm.size\/60<r.resp.length\/60<r.gz.length\/60<r.ex.length\/60<r.fa.length\/60<r.send.length\/60<r.left.length\/60<r.right.length\/60<r.pz.length)):bigR r=false:=by
 rw [Bool.eq_false_iff]
 intro h1
 unfold bigR at h1
 simp only [Bool.or_eq_true,decide_eq_true_eq] at h1
 omega
theorem bigR_p (h:¬ (500<r.nm.size\/60<r.resp.length\/60<r.gz.length\/60<r.ex.length\/60<r.fa.length\/60<r.send.length\/60<r.left.length\/60<r.right.length)):bigR r=decide (60<(r.pz.length:Int)):=by
 by_cases h1:60<r.pz.length
 ·rw [ZaJ (by omega),decide_eq_true (by omega)]
 rw [bigR_f (by omega),decide_eq_false (by omega)]
variable {q:Fm}
theorem Zbg (h:500<q.nm.size\/60<q.sz.length\/60<q.msgs.length\/60<q.vals.length\/60<q.res.length\/60<q.init.length\/60<q.lz.length\/30<q.rz.length):bigF q=true:=by
 unfold bigF
 have:(decide (500<q.nm.size)||decide (60<q.sz.length)||decide (60<q.msgs.length)||decide (60<q.vals.length)||decide (60<q.res.length)||decide (60<q.init.length)||decide (60<q.lz.length)||decide (30<q.rz.length))=true:=by
  simp only [Bool.or_eq_true,decide_eq_true_eq]
  omega
 rw [this];rfl
theorem bigF_n (h:¬ (500<q.nm.size\/60<q.sz.length\/60<q.msgs.length\/60<q.vals.length\/60<q.res.length\/60<q.init.length\/60<q.lz.length\/30<q.rz.length)):bigF q=(bigRk q.rz q.rz.length||bigN q.sz||bigN q.msgs||bigN q.vals):=by
 unfold bigF
 have:(decide (500<q.nm.size)||decide (60<q.sz.length)||decide (60<q.msgs.length)||decide (60<q.vals.length)||decide (60<q.res.length)||decide (60<q.init.length)||decide (60<q.lz.length)||decide (30<q.rz.length))=false:=by
  rw [Bool.eq_false_iff]
  intro h1
  simp only [Bool.or_eq_true,decide_eq_true_eq] at h1
  omega
 rw [this];rfl
theorem KI (xs:List ByteArray) (hl:xs.length<=9223372036854775807):Ctr Tryz.prog J 25 [ZN xs] (bv<|bigN xs):=by
 refine Zn func25 rfl (pN (ZcE _) pZ) (n:=16) rfl (by simp)<|λw0 => kW 16 [] [(0,ZN xs)]<|jB<|oS bF<|kN 16 [] [(0,ZN xs),(2,bF)]<|jC<|jB<|oS (iv 0)<|kN 16 [] [(0,ZN xs),(2,bF),(3,iv 0)]<|Zf<|Zh<|Zw (σ:={k:Nat // k<=xs.length/\bigNk xs k=false}) (λs=>(ofL [],ofT 16 [(0,ZN xs),(3,iv s.1)])) (λs=>xs.length-s.1) ⟨0,Nat.zero_le _,rfl⟩ (Zk [] _)<|λs => ?_
 obtain ⟨k,hk0,hs0⟩:=s
 show ETri J w0 (ofL []) (ofT 16 [(0,ZN xs),(3,iv k)]) _
 refine jM ?_
 by_cases hs1:(k:Int)<(xs.length:Int)
 refine Za<|W3<|ol (dT hs1)<|jH<|Zj<|jC<|Zh<|Zi ?_
 by_cases hs2:500<((xs[k].size:Nat):Int)
 exact Za<|oS (ZN xs)<|oS (iv k)<|oC (xS (k*1) 10 11 U22) I0 I0<|oL (sv xs[k]) (Zr xs<|by omega)<|oA (Yb (.tmp 13) rfl U9) I0<|og (dT hs2)<|jG<|oS bT<|jE<|Ze<|Zb<|Zb<|Ze<|Zb<|Zd results25 (.tmp rfl)<|cB<|(bigNk_yes (k:=k) (by omega)<|by omega).symm
 exact Za<|oS (ZN xs)<|oS (iv k)<|oC (xS (k*1) 10 11 U22) I0 I0<|oL (sv xs[k]) (Zr xs<|by omega)<|oA (Yb (.tmp 13) rfl U9) I0<|og (dF hs2)<|jI<|Zj<|Zs<|Zf<|Za<|oS (iv k)<|oV ((k+1:Nat):Int)<|oS (iv (k+1:Nat))<|kN 16 [] [(0,ZN xs),(3,iv (k+1:Nat)),(7,bT),(15,bF)]<|Zf<|Zp ⟨k+1,by omega,bigNk_succ (by omega) hs0 (by omega)⟩ (show xs.length-(k+1)<xs.length-k by omega)<|Zk [] _
 refine Za<|W3<|ol (dF hs1)<|jI<|jO<|jC<|Za<|oS bF<|jE<|Zd results25 (.tmp rfl) ?_
 obtain rfl:k=xs.length:=by omega
 exact cB<|hs0.symm
theorem ZeR (r:Ru):Ctr Tryz.prog J 24 [.agg (cRu r)] (bv<|bigR r):=by
 refine Zn func24 rfl (pN (Zg<|Yr r) pZ) (n:=55) rfl (by simp)<|λw0 => kW 55 [] [(0,.agg (cRu r))]<|jB<|oX 1 (.agg (cRu r))<|oS bF<|jD ?_
 by_cases hs1:500<(r.nm.size:Int)
 exact Za<|oF (sv r.nm)<|oA (Yb (.tmp 4) rfl U9) I0<|og (dT hs1)<|oS bT<|V4<|oF bT<|V4<|oF bT<|V4<|oF bT<|V4<|oF bT<|V4<|oF bT<|V4<|oF bT<|V4<|oF bT<|V4<|oF bT<|jE<|Zd results24 (.tmp rfl)<|cB<|(ZaJ<|by omega).symm
 by_cases hs2:60<(r.resp.length:Int)
 exact Za<|oF (sv r.nm)<|oA (Yb (.tmp 4) rfl U9) I0<|og (dF hs1)<|oS bF<|W3<|og (dT hs2)<|oF bT<|V4<|oF bT<|V4<|oF bT<|V4<|oF bT<|V4<|oF bT<|V4<|oF bT<|V4<|oF bT<|V4<|oF bT<|jE<|Zd results24 (.tmp rfl)<|cB<|(ZaJ<|by omega).symm
 by_cases hs3:60<(r.gz.length:Int)
 exact Za<|oF (sv r.nm)<|oA (Yb (.tmp 4) rfl U9) I0<|og (dF hs1)<|oS bF<|W3<|og (dF hs2)<|oF bF<|W3<|og (dT hs3)<|oF bT<|V4<|oF bT<|V4<|oF bT<|V4<|oF bT<|V4<|oF bT<|V4<|oF bT<|V4<|oF bT<|jE<|Zd results24 (.tmp rfl)<|cB<|(ZaJ<|by omega).symm
 by_cases hs4:60<(r.ex.length:Int)
 exact Za<|oF (sv r.nm)<|oA (Yb (.tmp 4) rfl U9) I0<|og (dF hs1)<|oS bF<|W3<|og (dF hs2)<|oF bF<|W3<|og (dF hs3)<|oF bF<|W3<|og (dT hs4)<|oF bT<|V4<|oF bT<|V4<|oF bT<|V4<|oF bT<|V4<|oF bT<|V4<|oF bT<|jE<|Zd results24 (.tmp rfl)<|cB<|(ZaJ<|by omega).symm
 by_cases hs5:60<(r.fa.length:Int)
 exact Za<|oF (sv r.nm)<|oA (Yb (.tmp 4) rfl U9) I0<|og (dF hs1)<|oS bF<|W3<|og (dF hs2)<|oF bF<|W3<|og (dF hs3)<|oF bF<|W3<|og (dF hs4)<|oF bF<|W3<|og (dT hs5)<|oF bT<|V4<|oF bT<|V4<|oF bT<|V4<|oF bT<|V4<|oF bT<|jE<|Zd results24 (.tmp rfl)<|cB<|(ZaJ<|by omega).symm
 by_cases hs6:60<(r.send.length:Int)
 exact Za<|oF (sv r.nm)<|oA (Yb (.tmp 4) rfl U9) I0<|og (dF hs1)<|oS bF<|W3<|og (dF hs2)<|oF bF<|W3<|og (dF hs3)<|oF bF<|W3<|og (dF hs4)<|oF bF<|W3<|og (dF hs5)<|oF bF<|W3<|og (dT hs6)<|oF bT<|V4<|oF bT<|V4<|oF bT<|V4<|oF bT<|jE<|Zd results24 (.tmp rfl)<|cB<|(ZaJ<|by omega).symm
 by_cases hs7:60<(r.left.length:Int)
 exact Za<|oF (sv r.nm)<|oA (Yb (.tmp 4) rfl U9) I0<|og (dF hs1)<|oS bF<|W3<|og (dF hs2)<|oF bF<|W3<|og (dF hs3)<|oF bF<|W3<|og (dF hs4)<|oF bF<|W3<|og (dF hs5)<|oF bF<|W3<|og (dF hs6)<|oF bF<|W3<|og (dT hs7)<|oF bT<|V4<|oF bT<|V4<|oF bT<|jE<|Zd results24 (.tmp rfl)<|cB<|(ZaJ<|by omega).symm
 by_cases hs8:60<(r.right.length:Int)
 exact Za<|oF (sv r.nm)<|oA (Yb (.tmp 4) rfl U9) I0<|og (dF hs1)<|oS bF<|W3<|og (dF hs2)<|oF bF<|W3<|og (dF hs3)<|oF bF<|W3<|og (dF hs4)<|oF bF<|W3<|og (dF hs5)<|oF bF<|W3<|og (dF hs6)<|oF bF<|W3<|og (dF hs7)<|oF bF<|W3<|og (dT hs8)<|oF bT<|V4<|oF bT<|jE<|Zd results24 (.tmp rfl)<|cB<|(ZaJ<|by omega).symm
 exact Za<|oF (sv r.nm)<|oA (Yb (.tmp 4) rfl U9) I0<|og (dF hs1)<|oS bF<|W3<|og (dF hs2)<|oF bF<|W3<|og (dF hs3)<|oF bF<|W3<|og (dF hs4)<|oF bF<|W3<|og (dF hs5)<|oF bF<|W3<|og (dF hs6)<|oF bF<|W3<|og (dF hs7)<|oF bF<|W3<|og (dF hs8)<|oF bF<|oW<|oF (iv r.pz.length)<|gC (WC rfl rfl) I0 I0<|oF (bv<|decide<|60<(r.pz.length:Int))<|jE<|Zd results24 (.tmp rfl)<|cB<|(bigR_p<|by omega).symm
theorem Big_c (HQ:FmOk q):Ctr Tryz.prog J 9 [.agg (cFm q)] (bv<|bigF q):=by
 refine Zn func9 rfl (pN (Zg<|Zy q) pZ) (n:=76) rfl (by simp)<|λw0 => kW 76 [] [(0,.agg (cFm q))]<|jB<|oX 1 (.agg (cFm q))<|oS bF<|jD<|Zi ?_
 by_cases hs1:500<(q.nm.size:Int)
 exact Za<|oF (sv q.nm)<|oA (Yb (.tmp 5) rfl U9) I0<|og (dT hs1)<|oS bT<|V4<|oF bT<|V4<|oF bT<|V4<|oF bT<|V4<|oF bT<|V4<|oF bT<|V4<|oF bT<|V4<|oS bT<|jG<|oS bT<|jA<|jN<|Zd results9 (.tmp rfl)<|cB<|(Zbg<|by omega).symm
 by_cases hs2:60<(q.sz.length:Int)
 exact Za<|oF (sv q.nm)<|oA (Yb (.tmp 5) rfl U9) I0<|og (dF hs1)<|oS bF<|W3<|og (dT hs2)<|oF bT<|V4<|oF bT<|V4<|oF bT<|V4<|oF bT<|V4<|oF bT<|V4<|oF bT<|V4<|oS bT<|jG<|oS bT<|jA<|jN<|Zd results9 (.tmp rfl)<|cB<|(Zbg<|by omega).symm
 by_cases hs3:60<(q.msgs.length:Int)
 exact Za<|oF (sv q.nm)<|oA (Yb (.tmp 5) rfl U9) I0<|og (dF hs1)<|oS bF<|W3<|og (dF hs2)<|oF bF<|W3<|og (dT hs3)<|oF bT<|V4<|oF bT<|V4<|oF bT<|V4<|oF bT<|V4<|oF bT<|V4<|oS bT<|jG<|oS bT<|jA<|jN<|Zd results9 (.tmp rfl)<|cB<|(Zbg<|by omega).symm
 by_cases hs4:60<(q.vals.length:Int)
 exact Za<|oF (sv q.nm)<|oA (Yb (.tmp 5) rfl U9) I0<|og (dF hs1)<|oS bF<|W3<|og (dF hs2)<|oF bF<|W3<|og (dF hs3)<|oF bF<|W3<|og (dT hs4)<|oF bT<|V4<|oF bT<|V4<|oF bT<|V4<|oF bT<|V4<|oS bT<|jG<|oS bT<|jA<|jN<|Zd results9 (.tmp rfl)<|cB<|(Zbg<|by omega).symm
 by_cases hs5:60<(q.res.length:Int)
 exact Za<|oF (sv q.nm)<|oA (Yb (.tmp 5) rfl U9) I0<|og (dF hs1)<|oS bF<|W3<|og (dF hs2)<|oF bF<|W3<|og (dF hs3)<|oF bF<|W3<|og (dF hs4)<|oF bF<|W3<|og (dT hs5)<|oF bT<|V4<|oF bT<|V4<|oF bT<|V4<|oS bT<|jG<|oS bT<|jA<|jN<|Zd results9 (.tmp rfl)<|cB<|(Zbg<|by omega).symm
 by_cases hs6:60<(q.init.length:Int)
 exact Za<|oF (sv q.nm)<|oA (Yb (.tmp 5) rfl U9) I0<|og (dF hs1)<|oS bF<|W3<|og (dF hs2)<|oF bF<|W3<|og (dF hs3)<|oF bF<|W3<|og (dF hs4)<|oF bF<|W3<|og (dF hs5)<|oF bF<|W3<|og (dT hs6)<|oF bT<|V4<|oF bT<|V4<|oS bT<|jG<|oS bT<|jA<|jN<|Zd results9 (.tmp rfl)<|cB<|(Zbg<|by omega).symm
 by_cases hs7:60<(q.lz.length:Int)
 exact Za<|oF (sv q.nm)<|oA (Yb (.tmp 5) rfl U9) I0<|og (dF hs1)<|oS bF<|W3<|og (dF hs2)<|oF bF<|W3<|og (dF hs3)<|oF bF<|W3<|og (dF hs4)<|oF bF<|W3<|og (dF hs5)<|oF bF<|W3<|og (dF hs6)<|oF bF<|W3<|og (dT hs7)<|oF bT<|V4<|oS bT<|jG<|oS bT<|jA<|jN<|Zd results9 (.tmp rfl)<|cB<|(Zbg<|by omega).symm
 by_cases hs8:30<(q.rz.length:Int)
 exact Za<|oF (sv q.nm)<|oA (Yb (.tmp 5) rfl U9) I0<|og (dF hs1)<|oS bF<|W3<|og (dF hs2)<|oF bF<|W3<|og (dF hs3)<|oF bF<|W3<|og (dF hs4)<|oF bF<|W3<|og (dF hs5)<|oF bF<|W3<|og (dF hs6)<|oF bF<|W3<|og (dF hs7)<|oF bF<|W3<|og (dT hs8)<|oS bT<|kN 76 [(1,.box 27 (cFm q))] [(1,bx 1),(2,bF),(49,bT)]<|Zf<|jK<|oS bT<|jA<|jN<|Zd results9 (.tmp rfl)<|cB<|(Zbg<|by omega).symm
 refine Za<|oF (sv q.nm)<|oA (Yb (.tmp 5) rfl U9) I0<|og (dF hs1)<|oS bF<|W3<|og (dF hs2)<|oF bF<|W3<|og (dF hs3)<|oF bF<|W3<|og (dF hs4)<|oF bF<|W3<|og (dF hs5)<|oF bF<|W3<|og (dF hs6)<|oF bF<|W3<|og (dF hs7)<|oF bF<|W3<|og (dF hs8)<|oS bF<|jF<|jM<|Za<|oS (iv 0)<|kN 76 [(1,.box 27 (cFm q))] [(1,bx 1),(2,bF),(3,iv 0)]<|Zf<|Zh<|Zw (σ:={k:Nat // k<=q.rz.length/\bigRk q.rz k=false}) (λs=>(ofL [(1,.box 27 (cFm q))],ofT 76 [(1,bx 1),(3,iv s.1)])) (λs=>q.rz.length-s.1) ⟨0,Nat.zero_le _,rfl⟩ (Zk _ _)<|λs => ?_
 obtain ⟨k,hk0,hs0⟩:=s
 show ETri J w0 (ofL [(1,.box 27 (cFm q))]) (ofT 76 [(1,bx 1),(3,iv k)]) _
 refine jM ?_
 by_cases hs9:(k:Int)<(q.rz.length:Int)
 refine Za<|W4<|ol (dT hs9)<|jH<|Zj<|jC<|Zh<|Zi ?_
 by_cases hs10:(bigR q.rz[k])=true
 refine Za<|oF (slA 18 cRu q.rz)<|oS (iv k)<|oC (xS (k*18) 58 59 U25) I0 I0<|oA (Zl (z:=18) (.tmp 60) rfl U79 rfl (by kernel_rfl) (ZJ lenRu q.rz k<|by omega) rfl) I0<|oK (Zo (ZeR q.rz[k]) hs10) [.agg (cRu q.rz[k])] rfl rfl<|jG<|oS bT<|jE<|Ze<|Zb<|Zb<|Ze<|Zb<|Zd results9 (.tmp rfl) ?_
 exact cB<|((bigF_n<|by omega).trans (by rw [bigRk_yes (k:=k) (by omega) hs10];rfl)).symm
 have hs10f:(bigR q.rz[k])=false:=by simpa using hs10
 exact Za<|oF (slA 18 cRu q.rz)<|oS (iv k)<|oC (xS (k*18) 58 59 U25) I0 I0<|oA (Zl (z:=18) (.tmp 60) rfl U79 rfl (by kernel_rfl) (ZJ lenRu q.rz k<|by omega) rfl) I0<|oK (Zo (ZeR q.rz[k]) hs10f) [.agg (cRu q.rz[k])] rfl rfl<|jI<|Zj<|Zs<|Zf<|Za<|oS (iv k)<|oV ((k+1:Nat):Int)<|oS (iv (k+1:Nat))<|kN 76 [(1,.box 27 (cFm q))] [(1,bx 1),(3,iv (k+1:Nat)),(54,bT),(62,bF)]<|Zf<|Zp ⟨k+1,by omega,bigRk_succ (by omega) hs0 hs10f⟩ (show q.rz.length-(k+1)<q.rz.length-k by omega)<|Zk _ _
 refine Za<|W4<|ol (dF hs9)<|jI<|jO<|jC ?_
 by_cases hs11:(bigN q.sz)=true
 refine Za<|W2<|oK (Zo (KI q.sz HQ.lstates) hs11) [ZN q.sz] rfl rfl<|oS bT<|V3<|oF bT<|V3<|oF bT<|jE<|Zd results9 (.tmp rfl) ?_
 obtain rfl:k=q.rz.length:=by omega
 exact cB<|((bigF_n<|by omega).trans (by rw [hs0,hs11];rfl)).symm
 have hs11f:(bigN q.sz)=false:=by simpa using hs11
 by_cases hs12:(bigN q.msgs)=true
 refine Za<|W2<|oK (Zo (KI q.sz HQ.lstates) hs11f) [ZN q.sz] rfl rfl<|oS bF<|W2<|oK (Zo (KI q.msgs HQ.lmsgs) hs12) [ZN q.msgs] rfl rfl<|oF bT<|V3<|oF bT<|jE<|Zd results9 (.tmp rfl) ?_
 obtain rfl:k=q.rz.length:=by omega
 exact cB<|((bigF_n<|by omega).trans (by rw [hs0,hs11f,hs12];rfl)).symm
 have hs12f:(bigN q.msgs)=false:=by simpa using hs12
 refine Za<|W2<|oK (Zo (KI q.sz HQ.lstates) hs11f) [ZN q.sz] rfl rfl<|oS bF<|W2<|oK (Zo (KI q.msgs HQ.lmsgs) hs12f) [ZN q.msgs] rfl rfl<|oF bF<|W2<|oK (KI q.vals HQ.lvals) [ZN q.vals] rfl rfl<|oF (bv<|bigN q.vals)<|jE<|Zd results9 (.tmp rfl) ?_
 obtain rfl:k=q.rz.length:=by omega
 exact cB<|((bigF_n<|by omega).trans (by rw [hs0,hs11f,hs12f];rfl)).symm
end Go.Proofs.YtmpgnibfhjdfpaaGreat
namespace Go.Proofs.YtmpgnibfhjdfpaaGreat
open Go.RowKit Go.Shelf Tryz
def TabW (w : World) : Prop := Go.Lib.TabIs Tryz.prog w "internal/strconv.uint64pow10" .u64 Go.Lib.pow10Tab
variable {w w':World}
theorem TabW.below (h:TabW w) (hb:Below w.heap.size w w'):TabW w':=by
 have:=Go.Lib.tabBelow_of_tabIs h
 exact this w' hb
end Go.Proofs.YtmpgnibfhjdfpaaGreat
namespace Go.Proofs.YtmpgnibfhjdfpaaGreat
open Go.RowKit Go.Deep Tryz
section
variable {F ok:Nat->Prop} {lo:Nat} {w:World}
theorem ln_pu (l:Ln) (vs:List Value) (h:LnEl lo w vs l):∀ j (hj:j<(cLn l).length),Pu F w ok (cLn l)[j] (vs.getD j undef):=by
 obtain ⟨rfl,_⟩:=h
 intro j hj
 match j,hj with
 | 0,_=>exact .v _
 | 1,_=>exact .v _
 | 2,_=>exact .v _
 | 3,_=>exact .v _
theorem str_pu (s:ByteArray) (vs:List Value) (h:StrEl lo w vs s):∀ j (hj:j<[sv s].length),Pu F w ok [sv s][j] (vs.getD j undef):=by
 obtain ⟨rfl,_⟩:=h
 intro j hj
 match j,hj with
 | 0,_=>exact .v _
variable {v:Value}{xs:List ByteArray}
theorem Ze0 (hok:∀ b,lo<=b->b<w.heap.size->ok b) (h:IsSl 1 StrEl lo w v xs):Pu F w ok (ZN xs) v:=by
 rw [fst1];exact sl_pu lenStr hok str_pu h
variable {q:Fm}
theorem fam_pu (hok:∀ b,lo<=b->b<w.heap.size->ok b) (h:IsFam lo w v q):Pu F w ok (.agg (cFm q)) v:=by
 obtain ⟨v2,v3,v4,v6,v7,v8,v9,rfl,h0,h1,h2,h3,h4,h5,h6,h7,h8,h9⟩:=h
 refine .agg rfl λj hj => ?_
 match j,hj with
 | 0,_=>exact .v _
 | 1,_=>exact .v _
 | 2,_=>exact Ze0 hok h2
 | 3,_=>exact Ze0 hok h3
 | 4,_=>exact Ze0 hok h4
 | 5,_=>exact .v _
 | 6,_=>exact sl_pu lenLn hok ln_pu h6
 | 7,_=>exact YT hok h7
 | 8,_=>exact YT hok h8
 | 9,_=>exact sl_pu lenRu hok (ru_puo hok) h9
end
variable {q:Fm}{i:Nat}{r:Ru}
theorem ruleE_nm (h:nameB r.nm.toList=false\/hasR (q.rz.take i) r.nm=true):ruleE q i r=2:=if_pos h
theorem Zcz (h:nameB r.nm.toList=true) (h':hasR (q.rz.take i) r.nm=false) (hf:fitB r.kind q.top=false\/othB r q.top=false):ruleE q i r=6:=by
 unfold ruleE;rw [if_neg (by rw [h,h'];simp),if_pos hf]
theorem Ze9 (h:nameB r.nm.toList=true) (h':hasR (q.rz.take i) r.nm=false) (hf:fitB r.kind q.top=true) (ho:othB r q.top=true) (hs:stB r q.sz.length=false):ruleE q i r=5:=by
 unfold ruleE;rw [if_neg (by rw [h,h'];simp),if_neg (by rw [hf,ho];simp),if_pos hs]
theorem ruleE_part (h:nameB r.nm.toList=true) (h':hasR (q.rz.take i) r.nm=false) (hf:fitB r.kind q.top=true) (ho:othB r q.top=true) (hs:stB r q.sz.length=true):ruleE q i r=partE q r:=by
 unfold ruleE;rw [if_neg (by rw [h,h'];simp),if_neg (by rw [hf,ho];simp),if_neg (by rw [hs];simp)]
variable {J:World->Prop}
variable {ρ:Names}{B k off n:Nat}{w:World}{x:Value}
theorem Rel.bsl_inv (h:Rel ρ B w (.bsl k off n) x) (h0:n≠0):∃ b c n' cp,ρ k=some (.at b c n')/\x = .slice (some ⟨b,off,none⟩) n cp:=by
 cases h with
 | pu h=>cases h
 | bsl h hx =>
   rcases hx with ⟨b,c,m,o',cp,rfl,rfl,ho⟩ | ⟨hz,_⟩
   ·rw [ho h0];exact ⟨_,_,_,_,h,rfl⟩
   exact absurd hz h0
section
variable {P:Program} {o:Oper}
variable {t e:TypeId}
theorem Zaf {z len k off:Nat} (x:Operand) (ho:o.op = .slice t x none none none) (hu:P.underlying t=some (.array len e)) (hz:(P.info? e).map (·.size)=some z) :
 ASpec P J o [(x,.box k off)] [] (.bsl k off len) .no :=
 ZF fun ρ B a w _ ha _=>by
  obtain ⟨b,c,n,h1',h2⟩:=(ha (x,.box k off) (by simp)).box_inv
  obtain ⟨it,hi,rfl⟩:=Option.map_eq_some_iff.1 hz
  refine ⟨.slice (some ⟨b,off,none⟩) len len,?_,.bsl (o:=off) (m:=len) h1' (.inl ⟨b,c,n,off,len,rfl,rfl,λ_=>rfl⟩)⟩
  simp only [execOp,ho,h2]
  refine Z7 ?_
  by_cases h0:len=0
  ·subst h0;simp [Instr.sliceAt,run_underlying hu,Instr.sureAddr,Instr.sliceBounds,sizeOf,typeInfo,hi]
  simp [Instr.sliceAt,run_underlying hu,Instr.sureAddr,Instr.sliceBounds,sizeOf,typeInfo,hi,h0,Addr.add_mid]
variable {dT sT T0:TypeId}{cs old new:List AV}
theorem sp_copyB {k off n m:Nat} (x y:Operand) (ho:o.op = .call { callee := .builtin .copy,args := #[x,y],argTypes := #[dT,sT] }) (hu:P.underlying dT=some (.slice e)) (hz:(P.info? e).map (·.size)=some 1)
 (hc:∀ X∈cs,X.cell=true) (hr:off+n<=old.length) (hl:new.length=old.length)
 (hin:∀ j (hj:j<new.length),new[j] = .any\/(off<=j/\j<off+min m n/\cs[j-off]? = some new[j])\/(¬ (off<=j/\j<off+min m n)/\old[j]? = some new[j])) (h0n:n≠0:=by decide) :
 ASpec P J o [(x,.bsl k off n),(y,.sl 1 m cs)] [(k,.box T0 old)] (.v (.int .i64 ((min m n:Nat):Int))) (.st k (.box T0 new)):=by
 intro ρ B a w K Q hwf hB _ ha hr' _ hk
 obtain ⟨b,c,n1,cp,h1,h2⟩:=(ha (x,.bsl k off n) (by simp)).bsl_inv h0n
 have hy:=(ha (y,.sl 1 m cs) (by simp)).sl_inv
 obtain ⟨nm,h1',b',c',n',vs,e0,hg,hvs,hrel⟩:=hr' (k,.box T0 old) (by simp)
 rw [h1] at h1';cases h1';cases e0
 have key:∃ vsrc:List Value,(∀ ty,(Builtin.copy_ #[dT,sT] ty #[.slice (some ⟨b,off,none⟩) n cp,a.eval y]).run P w = .ok (goInt ((min m n:Nat):Int)) (w.setCells b off vsrc))/\vsrc.length=min m n/\∀ j,j<min m n->∃ X v,cs[j]? = some X/\vsrc[j]? = some v/\Rel ρ B w X v:=by
  generalize a.eval y=v at hy
  cases hy with
  | sl0 q2 qz =>
    rename_i ad cap
    refine ⟨[],λty => ?_,by simp,λj hj=>by omega⟩
    have:=run_copy_none (P:=P) w dT sT ty e (some ⟨b,off,none⟩) ad n cp 0 cap hu hz (Nat.zero_min n)
    rw [this,show min 0 n=0 by omega]
    rfl
  | sl hcl q1 q2 hb hw hf hrc =>
    rename_i b2 off2 cap f
    have hcl':cs.length=m:=by omega
    have hvl:((List.range (min m n)).map f).length=min m n:=by simp
    refine ⟨(List.range (min m n)).map f,λty => ?_,hvl,λj hj => ?_⟩
    ·have:=run_copy_cells (P:=P) w dT sT ty e b off n cp ⟨b2,off2,none⟩ m cap ((List.range (min m n)).map f) hu hz (by rw [hvl]) (λj v hv => ?_) (λj hj => ?_) (λj hj=>frozenB hg _) λv hv => ?_
     ·rw [this,hvl]
     ·obtain ⟨hj,rfl⟩:=List.getElem?_eq_some_iff.1 hv
      have hj':j<min m n:=by rw [hvl] at hj;exact hj
      rw [Addr.add_mid]
      simpa using hf j (by omega)
     ·rw [hvl] at hj
      simp only [World.cell?,hg]
      simp;omega
     obtain ⟨j,hj,rfl⟩:=List.mem_map.1 hv
     have hj':=List.mem_range.1 hj
     have hj2:j<cs.length:=by omega
     exact (hrc j hj2).one (hc _ (List.getElem_mem hj2))
    have hj2:j<cs.length:=by omega
    exact ⟨cs[j],f j,List.getElem?_eq_getElem hj2,by simp [hj],.pu (hrc j hj2)⟩
 obtain ⟨vsrc,hrun,hvl,hcell⟩:=key
 obtain ⟨cur',hg',hs',hget⟩:=Y1 vsrc off w vs hg (by rw [hvl,hvs];omega)
 unfold Oper.wp
 simp only [execOp,ho,resolve,invoke,builtin,List.map_toArray,List.map_cons,List.map_nil,h2,Sem.run_bind,hrun,Result.andThen_ok,Sem.run_pure]
 obtain ⟨q1,q2,q3⟩:=Wp b vsrc off w
 have hlo:=hwf.lo _ _ _ _ h1
 have hkeep:∀ {X:AV} {x:Value},Rel ρ B w X x->Rel ρ B (w.setCells b off vsrc) X x:=λh=>h.keep (λ_ _ h=>h.mono (λ_ hb hw=>Ws h1 hb hw) λ_ _ h=>h) λ_ _ h=>h
 refine hk ρ _ _ ⟨rfl,q1,q2,q3,by rw [Yi];exact Nat.le_refl _,λb' _ hne=>YL (λe=>by subst e;exact hne k c n1 rfl h1) _ _ _,λ_ _ _=>rfl,λ_ _ _=>rfl,λk' X' he => ?_,.pu (.v _),λ_ _ h=>nomatch h⟩
 cases he
 refine ⟨_,h1,λb' c' n' e=>by cases e;exact ⟨by rw [Yi];exact hlo.2,hlo.1,.inr ⟨_,_,h1⟩⟩,b,c,n1,cur',rfl,hg',by rw [hs',hvs,hl],λj hj => ?_⟩
 have hcur:=hget j
 have hjs:j<cur'.size:=by omega
 rw [hvl] at hcur
 rw [Array.getD_eq_getD_getElem?,hcur]
 rcases hin j hj with h | ⟨g1,g2,g3⟩ | ⟨g1,g2⟩
 ·rw [h];exact .anyR
 ·obtain ⟨X,v,e1,e2,e3⟩:=hcell (j-off) (by omega)
  rw [if_pos ⟨g1,g2⟩,e2]
  rw [g3] at e1
  cases e1
  exact hkeep e3
 rw [if_neg g1]
 obtain ⟨hj1,e⟩:=List.getElem?_eq_some_iff.1 g2
 rw [<- e]
 have:=hkeep (hrel j hj1)
 rw [Array.getD_eq_getD_getElem?] at this
 exact this
def AV.isZ:AV->Bool
 | .v (.int .i64 0)=>true
 | _=>false
variable {X:AV}
theorem isZ_eq (h:X.isZ=true):X = .v (.int .i64 0):=by
 unfold AV.isZ at h
 split at h
 ·rfl
 cases h
theorem Zah (l:List Int) (x y:Operand) (ho:o.op = .call { callee := .builtin .copy,args := #[x,y],argTypes := #[dT,sT] }) (hu:P.underlying dT=some (.slice e)) (hz:(P.info? e).map (·.size)=some 1)
 (hr:Nat.ble (off+n) old.length=true) (h0:(old.zipIdx.all λp => !(Nat.ble off p.2&&Nat.blt p.2 (off+n))||p.1.isZ)=true)
 (hd:old.zipIdx.map (λp=>if Nat.ble off p.2&&Nat.blt p.2 (off+n) then AV.v (.int .i64 (l.getD (p.2-off) 0)) else p.1)=new) (h0n:n≠0:=by decide) :
 ASpec P J o [(x,.bsl k off n),(y,Zc l)] [(k,.box T0 old)] (.v (.int .i64 ((min l.length n:Nat):Int))) (.st k (.box T0 new)):=by
 subst hd
 refine sp_copyB x y ho hu hz (λX hX=>by obtain ⟨x,_,rfl⟩:=List.mem_map.1 hX;rfl) (Nat.le_of_ble_eq_true hr) (by simp) (λj hj => ?_) h0n
 have hj':j<old.length:=by simpa using hj
 simp only [List.getElem_map,List.getElem_zipIdx,Nat.zero_add]
 by_cases h:off<=j/\j<off+n
 ·rw [if_pos (by simp [Nat.blt_eq,Nat.ble_eq];exact h)]
  by_cases hl:j-off<l.length
  ·refine .inr (.inl ⟨h.1,by omega,?_⟩)
   rw [List.getElem?_map,List.getElem?_eq_getElem hl]
   simp [List.getD_eq_getElem?_getD,hl,iv]
  refine .inr (.inr ⟨by omega,?_⟩)
  have h3:=List.all_eq_true.1 h0 (old[j],j) (by rw [List.mem_iff_getElem];exact ⟨j,by simpa using hj',by simp⟩)
  have h4:(Nat.ble off j&&Nat.blt j (off+n))=true:=by simp [Nat.blt_eq,Nat.ble_eq];exact h
  simp only [h4,Bool.not_true,Bool.false_or] at h3
  rw [List.getElem?_eq_getElem hj',isZ_eq h3]
  simp [List.getD_eq_getElem?_getD,List.getElem?_eq_none (show l.length<=j-off by omega)]
 refine .inr (.inr ⟨λh'=>h ⟨h'.1,by omega⟩,?_⟩)
 rw [if_neg (by simp [Nat.blt_eq,Nat.ble_eq];omega),List.getElem?_eq_getElem hj']
end
section
variable {P:Program} {w0:Wb} {h:AHeap} {t:ATm}
theorem Kz {fn:Func} {r r' r'':ResultVar} {X X' X'' u:AV} (hr:fn.results = #[r,r',r'']) (h1:ResV P h t r X) (h2:ResV P h t r' X') (h3:ResV P h t r'' X'') (hu:(AV.tup [X,X',X'']).out3 h=u):ETri J w0 h t (bodyPost P fn (RetP w0 u) .ret):=fun ρ a w s=>by
 subst hu
 obtain ⟨v,g1,g2⟩:=KO s h1
 obtain ⟨v',g1',g2'⟩:=KO s h2
 obtain ⟨v'',g1'',g2''⟩:=KO s h3
 refine ⟨s.df,.tuple #[v,v',v''],?_,_,rfl,s.out3 (.tup rfl λj hj => ?_),s.bel⟩
 ·unfold results
  rw [hr,Sem.run_bind,mapM_three (v:=v) (v':=v') (v'':=v'') (by cases r<;>exact g1) (by cases r'<;>exact g1') (by cases r''<;>exact g1'')]
  rfl
 simp only [List.length_cons,List.length_nil] at hj
 match j,hj with
 | 0,_=>exact g2
 | 1,_=>exact g2'
 | 2,_=>exact g2''
end
theorem Rel.bsl_part (h:Rel ρ B w (.bsl k off n) x):∃ nm,ρ k=some nm/\PartV nm off n x:=by
 cases h with
 | pu h=>cases h
 | bsl h hx=>exact ⟨_,h,hx⟩
section
variable {P:Program} {o:Oper}
variable {t e:TypeId}
theorem ZdS {z n l h q:Nat} {cs ds:List AV} (x:Operand) (lo hi:Option Operand) (ho:o.op = .slice t x lo hi none) (hu:P.underlying t=some (.slice e)) (hz:(P.info? e).map (·.size)=some z)
 (Lo Hi:List (Operand × AV)) (hlo:(lo=none/\l=0/\Lo=[])\/∃ y ik,lo=some y/\Lo=[(y,.v (.int ik (l:Int)))]) (hhi:(hi=none/\h=n/\Hi=[])\/∃ y ik,hi=some y/\Hi=[(y,.v (.int ik (h:Int)))]) (h1:l<=h) (h2:h<=n) (hd:(cs.drop (l*z)).take ((h-l)*z)=ds) (hq:h-l=q) :
 ASpec P J o ((x,.sl z n cs)::(Lo++Hi)) [] (.sl z q ds) .no:=by
 subst hq
 exact WQ x lo hi ho hu hz Lo Hi hlo hhi h1 h2 hd
theorem Km {c:Operand} {xs:Array Operand} {ats:Array TypeId} {f:FuncId} {Xs Ys Cs Ds:List AV} {u U:AV} (rd:List (Nat × ABlk)) (hC:Ctr P J f (Ys++Ds) u) (ho:o.op = .call { callee := .value c,args:=xs,argTypes:=ats })
 (hf : (P.funcs[f]?).map (λfn => (fn.name == "runtime.NumGoroutine") || fn.body.isNone) = some false) (hl : xs.size = Xs.length) (hv : Xs.map (AV.view rd) = Ys) (hfl : Xs.all AV.flat2 = true) (hcl : (AV.clo f Cs).flat2 = true) (hcv : Cs.map (AV.viewC rd) = Ds) (hU : u.res = U) :
 ASpec P J o ((c,.clo f Cs)::xs.toList.zip Xs) rd U .no:=by
 subst hv hU
 intro ρ B a w K Q hwf hB hJ ha hr _ hk
 have hcc:=(ha (c,.clo f Cs) (by simp)).view hwf hr hcl
 simp only [AV.view,hcv] at hcc
 generalize hx:a.eval c=x at hcc
 cases hcc with
 | clo hcl' hcp =>
 rename_i caps
 refine KK ho hx hf ?_
 have hsz:(xs.map a.eval).size=Xs.length:=by simpa using hl
 refine (hC w (xs.map a.eval++caps) (λw' h=>hJ w' (Y8 h)) (by simp [hl,hcl']) λj hj => ?_).mono λe w' ⟨v,he,hp,hb⟩=>⟨v,he,hk ρ w' v ⟨rfl,hb.os,hb.tape,hb.output,hb.size,λb hb' _=>hb.block b hb',λ_ _ _=>rfl,(λ_ _ h=>by cases h),(λ_ _ h=>by cases h),.pu (hp.mono (λb hb' hw=>⟨⟨λk c n hk => ?_,Nat.le_trans hB hb'.1,hb'.2⟩,hw,rfl⟩) λb _ h=>Nat.le_trans hB h).res,λ_ _ h=>nomatch h⟩⟩
 ·have hj0:j<Xs.length+Ds.length:=by simpa using hj
  by_cases hjx:j<Xs.length
  ·have hj2:j<xs.size:=by omega
   rw [List.getElem_append_left (by simpa using hjx),List.getElem_map]
   have hm:(xs[j],Xs[j])∈(c,AV.clo f Cs)::xs.toList.zip Xs:=by
    refine List.mem_cons_of_mem _ ?_
    rw [List.mem_iff_getElem]
    exact ⟨j,by simp;omega,by simp⟩
   have:=(ha _ hm).view hwf hr (List.all_eq_true.1 hfl _ (List.getElem_mem hjx))
   have e:(xs.map a.eval++caps).getD j undef=a.eval xs[j]:=by
    simp [Array.getD,hj2];omega
   rw [e];exact this
  rw [List.getElem_append_right (by simp;omega)]
  have hjc:j-Xs.length<Ds.length:=by omega
  have:=hcp (j-Xs.length) hjc
  have e:(xs.map a.eval++caps).getD j undef=caps.getD (j-Xs.length) undef:=by
   have h1:¬ j<xs.size:=by omega
   have h2:j-xs.size<caps.size:=by omega
   have h3:j<xs.size+caps.size:=by omega
   have h4:j-Xs.length=j-xs.size:=by omega
   simp [Array.getD,Array.getElem_append,h1,h2,h3,h4]
  rw [e]
  simpa using this
 have:=(hwf.lo _ _ _ _ hk).2;have:=hb'.1;omega
end
set_option maxRecDepth 100000
set_option maxHeartbeats 6400000
theorem orL_drop {l:List Int} (hk:k<l.length):orL (l.drop k)=if l[k]=0 then orL (l.drop (k+1)) else l[k]:=by
 rw [List.drop_eq_getElem_cons hk];rfl
theorem orL_one (a:Int):orL [a]=a:=by unfold orL orL;split<;>omega
theorem Zam (a:Int) (l:List Int):orL (a::l)=orE a (orL l):=rfl
theorem respE_c (n:Nat) (hn:n<=9223372036854775807) (xs:List Int) (hx:InOk xs):Ctr Tryz.prog J 133 [Zc xs,iv n] (iv (reE n xs)):=ctr2 λw v v' _ h h'=>by
 rw [h'.v_inv];exact (ZaP n hn (Yf hx (lo:=0) (λ_ _=>Nat.zero_le _) h)).mono λ_ _=>Zay
theorem Zcu (n:Nat) (hn:n<=9223372036854775807) (xs:List Int) (hx:InOk xs):Ctr Tryz.prog J 51 [Zc xs,iv n] (iv (setE n xs)):=ctr2 λw v v' _ h h'=>by
 rw [h'.v_inv];exact (Ks n hn (Yf hx (lo:=0) (λ_ _=>Nat.zero_le _) h)).mono λ_ _=>ret_sc
theorem guardsE_c (n:Nat) (hn:n<=9223372036854775807) (gs:List Th) (hg:∀ g∈gs,ThOk g):Ctr Tryz.prog J 135 [slA 6 cTh gs,iv n] (iv (guardE n gs)):=ctr2 λw v v' _ h h'=>by
 rw [h'.v_inv];exact (ZbZ n hn (ZbT lenTh (lo:=0) (λ_ _=>Nat.zero_le _) ThOk hg (λ_ _ hr hl hp=>th_of hr hl hp) h)).mono λ_ _=>ret_sc
theorem posE_c (a b:Int):Ctr Tryz.prog J 136 [iv a,iv b] (iv (posE a b)):=ctr2 λw v v' _ h h'=>by
 rw [h.v_inv,h'.v_inv];exact (ZaQ a b w).mono λ_ _=>Zay
theorem dirE_c (a b:Int):Ctr Tryz.prog J 137 [iv a,iv b] (iv (dirE a b)):=ctr2 λw v v' _ h h'=>by
 rw [h.v_inv,h'.v_inv];exact (ZaI a b w).mono λ_ _=>Zay
theorem ZaR (a b:Int):Ctr Tryz.prog J 120 [iv a,iv b] (bv (fitB a b)):=ctr2 λw v v' _ h h'=>by
 rw [h.v_inv,h'.v_inv];exact (Zep a b w).mono λ_ _=>Zay
theorem Zc0 (s:ByteArray) (hs:s.size<=maxLen):Ctr Tryz.prog J 50 [sv s] (bv (nameB s.toList)):=ctr1 λw v _ h=>by
 rw [h.v_inv];exact (YI s w hs).mono λ_ _=>ret_sc
theorem ZbI (hr:RuOk r) (n:Nat) (hn:n<=9223372036854775807):Ctr Tryz.prog J 134 [.agg (cRu r),iv n] (iv (shE n r.rd r.wr)):=ctr2 λw v v' _ h h'=>by
 obtain ⟨vs,rfl,hl,hv⟩:=Yt h
 rw [h'.v_inv];exact (ZbH n hn (ru_of (lo:=0) hr (λ_ _=>Nat.zero_le _) hl hv)).mono λ_ _=>ret_sc
theorem ZdR (hr:RuOk r) (n:Nat) (hn:n<=9223372036854775807):Ctr Tryz.prog J 122 [.agg (cRu r),iv n] (bv (stB r n)):=ctr2 λw v v' _ h h'=>by
 obtain ⟨vs,rfl,hl,hv⟩:=Yt h
 rw [h'.v_inv];exact (ZbC n hn (ru_of (lo:=0) hr (λ_ _=>Nat.zero_le _) hl hv)).mono λ_ _=>ret_sc
theorem Zev (rs:List Ru) (hr:∀ r∈rs,RuOk r) (s:ByteArray):Ctr Tryz.prog J 119 [slA 18 cRu rs,sv s] (bv (hasR rs s)):=ctr2 λw v v' _ h h'=>by
 rw [h'.v_inv];exact (Zfo s (ZbT lenRu (lo:=0) (λ_ _=>Nat.zero_le _) RuOk hr (λ_ _ hr hl hp=>ru_of hr (λ_ _=>Nat.zero_le _) hl hp) h)).mono λ_ _=>ret_sc
theorem orSl_c (l:List Int) (hl:l.length<=9223372036854775807):Ctr Tryz.prog J 94 [Zc l] (iv<|orL l):=by
 refine Zn func94 rfl (pN (Zx _) pZ) (n:=18) rfl (by simp)<|λw0 => jB<|oS (iv 0)<|kN 18 [] [(0,Zc l),(2,iv 0)]<|jC<|Za<|oS (iv 0)<|kN 18 [] [(0,Zc l),(2,iv 0),(3,iv 0)]<|jC<|jB<|oS (Zc l)<|oS (iv l.length)<|oS (iv 0)<|jA<|Zh<|Zw (σ:={k:Nat // k<=l.length/\orL l=orL (l.drop k)}) (λs=>(ofL [],ofT 18 [(3,iv 0),(6,Zc l),(7,iv l.length),(8,iv s.1)])) (λs=>l.length-s.1) ⟨0,Nat.zero_le _,rfl⟩ (Zk [] _)<|λs => ?_
 obtain ⟨k,hk0,hs0⟩:=s
 show ETri J w0 (ofL []) (ofT 18 [(3,iv 0),(6,Zc l),(7,iv l.length),(8,iv k)]) _
 refine Zi ?_
 by_cases hs1:(k:Int)<(l.length:Int)
 refine Za<|ol (dT hs1)<|jD<|ZM rfl<|Zj<|jC<|Zh<|jB<|oC (xS (k*1) 6 8 U161) I0 I0<|oL (iv l[k]) (Zr l<|by omega)<|oS (iv l[k])<|jD ?_
 by_cases hs2:l[k]=0
 exact Za<|W2<|on (dT' hs2)<|jI<|Zj<|Zs<|Zf<|Za<|oV ((k+1:Nat):Int)<|oS (iv (k+1:Nat))<|jA<|Zp ⟨k+1,by omega,hs0.trans ((orL_drop<|by omega).trans (if_pos hs2))⟩ (show l.length-(k+1)<l.length-k by omega)<|Zk [] _
 exact Za<|W2<|on (dF' hs2)<|jG<|oF (iv l[k])<|jE<|Ze<|Zb<|Zb<|Ze<|Zb<|Zd results94 (.tmp rfl)<|congrArg (λx:Int=>AV.v (.int .i64 x)) (hs0.trans<|(orL_drop<|by omega).trans (if_neg hs2)).symm
 refine Za<|ol (dF hs1)<|jD<|Zu rfl<|jO<|jC<|Za<|oF (iv 0)<|jE<|Zd results94 (.tmp rfl) ?_
 obtain rfl:k=l.length:=by omega
 exact congrArg (λx:Int=>AV.v (.int .i64 x)) (show 0=orL l from by rw [hs0,List.drop_length];rfl)
theorem Zei (HQ:FmOk q) (HR:RuOk r):Ctr Tryz.prog J 123 [.agg (cFm q),.agg (cRu r)] (iv<|partE q r):=by
 refine Zn func123 rfl (pN (Zg<|Zy q)<|pN (Zg<|Yr r) pZ) (n:=83) rfl (by simp)<|λw0 => jB<|oX 1 (.agg (cFm q))<|oX 2 (.agg (cRu r))<|oS (iv 0)<|jD<|Za<|W2<|oF (iv q.sz.length)<|jD<|jB<|oF (iv r.kind)<|jA<|Zh<|Zi<|Zh<|Zi<|Zh<|Zi<|Zh<|Zi<|Zh<|jM<|Zi ?_
 by_cases hs1:r.kind=3
 refine Za<|oe (dT hs1)<|oS bT<|kN 83 [(1,.box 27 (cFm q)),(2,.box 79 (cRu r))] [(2,bx 1),(3,bx 2),(4,iv 0),(5,iv q.sz.length),(11,iv r.kind),(12,bT)]<|Zf<|ZM rfl<|jO<|jC<|Za<|W3<|oK (respE_c q.sz.length HQ.lstates r.resp HR.resp) [Zc r.resp,iv q.sz.length] rfl rfl<|oS (iv<|reE q.sz.length r.resp)<|jD ?_
 by_cases hs2:(reE q.sz.length r.resp)=0
 refine Za<|oW<|on (dT' hs2)<|jI<|Zj<|Zs<|jC<|jB<|W4<|oK (ZbI HR q.vals.length HQ.lvals) [.agg (cRu r),iv q.vals.length] rfl rfl<|oS (iv<|shE q.vals.length r.rd r.wr)<|jE<|Zb<|Ze<|Zb<|Ze<|Zb<|Ze<|Zb<|Zd results123 (.tmp rfl) ?_
 exact congrArg (λx:Int=>AV.v (.int .i64 x))<|by unfold partE;rw [if_pos hs1];unfold orE;rw [if_pos hs2]
 refine Za<|oW<|on (dF' hs2)<|jG<|oF (iv<|reE q.sz.length r.resp)<|jE<|Ze<|Zb<|Ze<|Zb<|Ze<|Zb<|Ze<|Zb<|Zd results123 (.tmp rfl) ?_
 exact congrArg (λx:Int=>AV.v (.int .i64 x))<|by unfold partE;rw [if_pos hs1];unfold orE;rw [if_neg hs2]
 refine Za<|oe (dF hs1)<|oS bF<|jF<|jM ?_
 by_cases hs3:r.kind=2
 refine Za<|oe (dT hs3)<|oS bT<|jH<|KR<|ZS<|ZS<|W8 (by decide)<|ZS<|ZdP<|jC<|jB<|W4<|oK (ZbI HR q.vals.length HQ.lvals) [.agg (cRu r),iv q.vals.length] rfl rfl<|oS (iv<|shE q.vals.length r.rd r.wr)<|jA<|jN<|Ze<|Zb<|Ze<|Zb<|Ze<|Zb<|Zd results123 (.tmp rfl) ?_
 exact congrArg (λx:Int=>AV.v (.int .i64 x))<|by unfold partE;rw [if_neg hs1];rw [if_pos hs3]
 refine Za<|oe (dF hs3)<|oS bF<|jF<|jM ?_
 by_cases hs4:r.kind=1
 refine Za<|oe (dT hs4)<|oS bT<|jH<|KR<|ZS<|ZS<|W8 (by decide)<|ZS<|W8 (by decide)<|ZS<|ZdP<|jC<|Zi ?_
 refine tD<|dW<|dW<|dW<|dW<|dW<|dk (guardsE_c q.msgs.length HQ.lmsgs r.gz HR.gz) [slA 6 cTh r.gz,iv q.msgs.length] rfl rfl<|dW<|dW<|dW<|dk (Zcu q.sz.length HQ.lstates r.ex HR.ex) [Zc r.ex,iv q.sz.length] rfl rfl<|dW<|dW<|dW<|dk (Zcu q.sz.length HQ.lstates r.fa HR.fa) [Zc r.fa,iv q.sz.length] rfl rfl<|dW<|dW<|dW<|dW<|dk (ZbI HR q.vals.length HQ.lvals) [.agg (cRu r),iv q.vals.length] rfl rfl<|dW<|dW<|dW<|dW<|dW<|dk (Zcu q.msgs.length HQ.lmsgs r.send HR.send) [Zc r.send,iv q.msgs.length] rfl rfl<|dR (Wn (z:=1) (k:=3) (fr:=true) (cs:=[iv (guardE q.msgs.length r.gz),iv (setE q.sz.length r.ex),iv (setE q.sz.length r.fa),iv (shE q.vals.length r.rd r.wr),iv (setE q.msgs.length r.send)]) [.tmp 37,.tmp 41,.tmp 45,.tmp 50,.tmp 56] [iv (guardE q.msgs.length r.gz),iv (setE q.sz.length r.ex),iv (setE q.sz.length r.fa),iv (shE q.vals.length r.rd r.wr),iv (setE q.msgs.length r.send)] rfl U161 (by kernel_rfl) (by decide) (by decide) rfl rfl rfl (by kernel_rfl) (by decide) (λ_=>by simp [AV.cellsOf,AV.isNew,cLn,cTh])<|by kernel_rfl) ⟨I0,I0,I0,I0,I0,T0⟩ T0 rfl<|dR (sc #[.tmp 57] [(3,.row true 51 1 5 ([iv (guardE q.msgs.length r.gz),iv (setE q.sz.length r.ex),iv (setE q.sz.length r.fa),iv (shE q.vals.length r.rd r.wr),iv (setE q.msgs.length r.send)]))] (orSl_c [(guardE q.msgs.length r.gz),(setE q.sz.length r.ex),(setE q.sz.length r.fa),(shE q.vals.length r.rd r.wr),(setE q.msgs.length r.send)]<|by simp) [.own 3] rfl rfl rfl) ⟨I0,I0,T0⟩ ⟨rfl,T0⟩ T0<|dS (iv<|orL [(guardE q.msgs.length r.gz),(setE q.sz.length r.ex),(setE q.sz.length r.fa),(shE q.vals.length r.rd r.wr),(setE q.msgs.length r.send)])<|eD ?_
 refine Zf<|jN<|Ze<|Zb<|Ze<|Zb<|Zd results123 (.tmp rfl) ?_
 exact congrArg (λx:Int=>AV.v (.int .i64 x))<|by unfold partE;rw [if_neg hs1];rw [if_neg hs3];rw [if_pos hs4];rw [Zam,Zam,Zam,Zam,orL_one]
 refine Za<|oe (dF hs4)<|oS bF<|jF<|Zi ?_
 by_cases hs5:r.kind=4
 refine Za<|oe (dT hs5)<|oS bT<|jH<|KR<|ZS<|W8 (by decide)<|ZS<|W8 (by decide)<|ZS<|W8 (by decide)<|ZS<|ZdP<|jC<|Zi ?_
 refine tD<|dW<|dW<|dW<|dk (Zcu q.sz.length HQ.lstates r.left HR.left) [Zc r.left,iv q.sz.length] rfl rfl<|dW<|dW<|dW<|dk (Zcu q.sz.length HQ.lstates r.right HR.right) [Zc r.right,iv q.sz.length] rfl rfl<|dW<|dW<|dW<|dk (Zcu q.sz.length HQ.lstates r.pz HR.pz) [Zc r.pz,iv q.sz.length] rfl rfl<|dW<|dW<|dW<|dW<|dk (posE_c r.pos q.top) [iv r.pos,iv q.top] rfl rfl<|dR (Wn (z:=1) (k:=3) (fr:=true) (cs:=[iv (setE q.sz.length r.left),iv (setE q.sz.length r.right),iv (setE q.sz.length r.pz),iv (posE r.pos q.top)]) [.tmp 62,.tmp 66,.tmp 70,.tmp 75] [iv (setE q.sz.length r.left),iv (setE q.sz.length r.right),iv (setE q.sz.length r.pz),iv (posE r.pos q.top)] rfl U161 (by kernel_rfl) (by decide) (by decide) rfl rfl rfl (by kernel_rfl) (by decide) (λ_=>by simp [AV.cellsOf,AV.isNew,cLn,cTh])<|by kernel_rfl) ⟨I0,I0,I0,I0,T0⟩ T0 rfl<|dR (sc #[.tmp 76] [(3,.row true 51 1 4 ([iv (setE q.sz.length r.left),iv (setE q.sz.length r.right),iv (setE q.sz.length r.pz),iv (posE r.pos q.top)]))] (orSl_c [(setE q.sz.length r.left),(setE q.sz.length r.right),(setE q.sz.length r.pz),(posE r.pos q.top)]<|by simp) [.own 3] rfl rfl rfl) ⟨I0,I0,T0⟩ ⟨rfl,T0⟩ T0<|dS (iv<|orL [(setE q.sz.length r.left),(setE q.sz.length r.right),(setE q.sz.length r.pz),(posE r.pos q.top)])<|eD ?_
 refine Zf<|jN<|Ze<|Zb<|Zd results123 (.tmp rfl) ?_
 exact congrArg (λx:Int=>AV.v (.int .i64 x))<|by unfold partE;rw [if_neg hs1];rw [if_neg hs3];rw [if_neg hs4];rw [if_pos hs5];rw [Zam,Zam,Zam,orL_one]
 refine Za<|oe (dF hs5)<|oS bF<|jF<|KR<|W8 (by decide)<|ZS<|W8 (by decide)<|ZS<|W8 (by decide)<|ZS<|W8 (by decide)<|ZS<|ZdP<|jC<|Za<|W3<|oW<|oK (dirE_c r.dir q.top) [iv r.dir,iv q.top] rfl rfl<|oS (iv<|dirE r.dir q.top)<|jE<|Zd results123 (.tmp rfl) ?_
 exact congrArg (λx:Int=>AV.v (.int .i64 x))<|by unfold partE;rw [if_neg hs1];rw [if_neg hs3];rw [if_neg hs4];rw [if_neg hs5]
theorem Zap {α:Type} {g:α->List AV} {z:Nat} (hz:∀ x,(g x).length=z):∀ (l:List α) (k:Nat),k<=l.length->((l.flatMap g).drop (0*z)).take (k*z)=(l.take k).flatMap g
 | _,0,_=>by simp
 | [],k+1,h=>absurd h (by simp)
 | a::l,k+1,h=>by
   have ih:=Zap hz l k (by simpa using h)
   rw [Nat.zero_mul,List.drop_zero] at ih ⊢
   rw [List.flatMap_cons,List.take_succ_cons,List.flatMap_cons,<- ih,List.take_append,hz,show (k+1)*z-z=k*z by rw [Nat.succ_mul];omega,List.take_of_length_le (by rw [hz,Nat.succ_mul];omega)]
theorem Ze8 (HQ:FmOk q) (hi:i<q.rz.length):Ctr Tryz.prog J 95 [.agg (cFm q),iv i] (iv<|ruleE q i q.rz[i]):=by
 have HR:=HQ.rz q.rz[i] (List.getElem_mem hi)
 have lr:=HQ.lrules
 refine Zn func95 rfl (pN (Zg<|Zy q)<|pN (.v _) pZ) (n:=49) rfl (by simp)<|λw0 => jB<|oX 1 (.agg (cFm q))<|oS (iv 0)<|jD<|Za<|oF (slA 18 cRu q.rz)<|oS (iv i)<|oC (xS (i*18) 7 8 U25) I0 I0<|oA (Zl (z:=18) (.tmp 9) rfl U79 rfl (by kernel_rfl) (ZJ lenRu q.rz i<|by omega) rfl) I0<|oZ 2 Z79<|oY<|kN 49 [(1,.box 27 (cFm q)),(2,.box 79 (cRu q.rz[i]))] [(1,iv i),(2,bx 1),(4,iv 0),(5,bx 2)]<|jC<|Zh<|Zi ?_
 by_cases hs1:(nameB q.rz[i].nm.toList)=true
 by_cases hs2:(hasR (q.rz.take i) q.rz[i].nm)=true
 refine tD<|dW<|dW<|dk (Zo (Zc0 q.rz[i].nm HR.nm) hs1) [sv q.rz[i].nm] rfl rfl<|dW<|dS bF<|dW<|dS (slA 18 cRu q.rz)<|dS (iv i)<|dC (ZdS (q:=(q.rz.take i).length) (l:=0) (h:=i) (ds:=((q.rz.take i).flatMap cRu)) (.tmp 18) none (some<|.tmp 19) rfl U25 (by kernel_rfl) [] [(.tmp 19,iv i)] (.inl ⟨rfl,rfl,rfl⟩) (.inr ⟨_,_,rfl,rfl⟩) (Nat.zero_le _) (by omega) (Zap lenRu q.rz i<|by omega)<|by rw [List.length_take];omega) I0 I0<|dW<|dW<|dk (Zo (Zev (q.rz.take i) (λx hx=>HQ.rz x (List.mem_of_mem_take hx)) q.rz[i].nm) hs2) [slA 18 cRu (q.rz.take i),sv q.rz[i].nm] rfl rfl<|dW<|dS bT<|eD ?_
 exact Zf<|jK<|oS (iv 2)<|jE<|Ze<|Zb<|Zd results95 (.tmp rfl)<|congrArg (λx:Int=>AV.v (.int .i64 x))<|(ruleE_nm<|.inr hs2).symm
 have hs2f:(hasR (q.rz.take i) q.rz[i].nm)=false:=by simpa using hs2
 refine tD<|dW<|dW<|dk (Zo (Zc0 q.rz[i].nm HR.nm) hs1) [sv q.rz[i].nm] rfl rfl<|dW<|dS bF<|dW<|dS (slA 18 cRu q.rz)<|dS (iv i)<|dC (ZdS (q:=(q.rz.take i).length) (l:=0) (h:=i) (ds:=((q.rz.take i).flatMap cRu)) (.tmp 18) none (some<|.tmp 19) rfl U25 (by kernel_rfl) [] [(.tmp 19,iv i)] (.inl ⟨rfl,rfl,rfl⟩) (.inr ⟨_,_,rfl,rfl⟩) (Nat.zero_le _) (by omega) (Zap lenRu q.rz i<|by omega)<|by rw [List.length_take];omega) I0 I0<|dW<|dW<|dk (Zo (Zev (q.rz.take i) (λx hx=>HQ.rz x (List.mem_of_mem_take hx)) q.rz[i].nm) hs2f) [slA 18 cRu (q.rz.take i),sv q.rz[i].nm] rfl rfl<|dW<|dS bF<|eD ?_
 refine Zf<|Zu rfl<|Zi ?_
 by_cases hs3:(fitB q.rz[i].kind q.top)=true
 by_cases hs4:(othB q.rz[i] q.top)=true
 refine Za<|W4<|oK (Zo (ZaR q.rz[i].kind q.top) hs3) [iv q.rz[i].kind,iv q.top] rfl rfl<|oF bF<|W3<|oK (Zo (ZaC (Wu hs3) HR) hs4) [.agg (cRu q.rz[i]),iv q.top] rfl rfl<|oW<|oF bF<|jI<|Zi ?_
 by_cases hs5:(stB q.rz[i] q.sz.length)=true
 exact Za<|W4<|oK (Zo (ZdR HR q.sz.length HQ.lstates) hs5) [.agg (cRu q.rz[i]),iv q.sz.length] rfl rfl<|oF bF<|jI<|Zj<|Zs<|jC<|Za<|W2<|oK (Zei HQ HR) [.agg (cFm q),.agg (cRu q.rz[i])] rfl rfl<|oS (iv<|partE q q.rz[i])<|jE<|Zd results95 (.tmp rfl)<|congrArg (λx:Int=>AV.v (.int .i64 x))<|(ruleE_part hs1 hs2f hs3 hs4 hs5).symm
 have hs5f:(stB q.rz[i] q.sz.length)=false:=by simpa using hs5
 exact Za<|W4<|oK (Zo (ZdR HR q.sz.length HQ.lstates) hs5f) [.agg (cRu q.rz[i]),iv q.sz.length] rfl rfl<|oF bT<|jG<|oS (iv 5)<|jE<|Ze<|Zb<|Zd results95 (.tmp rfl)<|congrArg (λx:Int=>AV.v (.int .i64 x))<|(Ze9 hs1 hs2f hs3 hs4 hs5f).symm
 have hs4f:(othB q.rz[i] q.top)=false:=by simpa using hs4
 exact Za<|W4<|oK (Zo (ZaR q.rz[i].kind q.top) hs3) [iv q.rz[i].kind,iv q.top] rfl rfl<|oF bF<|W3<|oK (Zo (ZaC (Wu hs3) HR) hs4f) [.agg (cRu q.rz[i]),iv q.top] rfl rfl<|oW<|oF bT<|jG<|oS (iv 6)<|jE<|Ze<|Zb<|Zd results95 (.tmp rfl)<|congrArg (λx:Int=>AV.v (.int .i64 x))<|(Zcz hs1 hs2f<|.inr hs4f).symm
 have hs3f:(fitB q.rz[i].kind q.top)=false:=by simpa using hs3
 exact Za<|W4<|oK (Zo (ZaR q.rz[i].kind q.top) hs3f) [iv q.rz[i].kind,iv q.top] rfl rfl<|oF bT<|V5<|oF bT<|jG<|oS (iv 6)<|jE<|Ze<|Zb<|Zd results95 (.tmp rfl)<|congrArg (λx:Int=>AV.v (.int .i64 x))<|(Zcz hs1 hs2f<|.inl hs3f).symm
 have hs1f:(nameB q.rz[i].nm.toList)=false:=by simpa using hs1
 exact tD<|dW<|dW<|dk (Zo (Zc0 q.rz[i].nm HR.nm) hs1f) [sv q.rz[i].nm] rfl rfl<|dW<|dS bT<|dK<|dK<|dK<|dK<|dK<|dK<|dK<|dW<|dS bT<|eD<|Zf<|jK<|oS (iv 2)<|jE<|Ze<|Zb<|Zd results95 (.tmp rfl)<|congrArg (λx:Int=>AV.v (.int .i64 x))<|(ruleE_nm<|.inl hs1f).symm
variable {lo:Nat}{v:Value}
theorem ruleErrorP (i:Nat) (hi:i<q.rz.length) (hq:IsFam lo w v q) :
 Calls Tryz.prog 95 #[v,.int .i64 i] w λe w'=>e = .returned (.int .i64 (ruleE q i q.rz[i]))/\Below w.heap.size w w' :=
 (Ze8 (J:=λ_=>True) hq.ok hi w #[v,.int .i64 i] (λ_ _=>T0) rfl λj hj=>(match j,hj with
  | 0,_=>fam_pu (λ_ _ hb=>hb) hq
  | 1,_ => .v _)).mono λ_ _ ⟨_,he,hp,hb⟩=>⟨by rw [he,hp.v_inv],hb⟩
theorem IsSl.take {α:Type} {size:Nat} {P:Nat->World->List Value->α->Prop} {lo:Nat} {w:World} {a:Option Addr} {n cap:Nat} {xs:List α} (h:IsSl size P lo w (.slice a n cap) xs) (k:Nat) (hk:k<=xs.length):IsSl size P lo w (.slice a k cap) (xs.take k):=by
 obtain ⟨a',cap',hv,h1,hm,hn,hc⟩:=h
 simp only [Value.slice.injEq] at hv
 obtain ⟨rfl,rfl,rfl⟩:=hv
 have e:(xs.take k).length=k:=by simp;omega
 refine ⟨a,cap,by rw [e],by omega,hm,hn,?_⟩
 rcases hc with rfl | ⟨b,off,ha,hlo,hb,hc⟩
 ·exact .inl (by simp)
 refine .inr ⟨b,off,ha,hlo,hb,λi hi => ?_⟩
 obtain ⟨cs,g1,g2,g3⟩:=hc i (by omega)
 exact ⟨cs,g1,g2,by simpa using g3⟩
theorem Ku:(Tryz.prog.info? 27).map (·.size)=some 10:=by kernel_rfl
theorem KE (i:Nat) (hi:i<q.rz.length) (hq:IsFam lo w v q) :
 Calls Tryz.prog 95 #[v,.int .i64 i] w λe w'=>e = .returned (.int .i64 (ruleE q i q.rz[i]))/\Below w.heap.size w w':=ruleErrorP i hi hq
set_option maxHeartbeats 12800000
def lrgL (l:Ln):Bool := !smL l.c l.n l.t l.f
theorem any_succ {α:Type} {p:α->Bool} {xs:List α} (h:k<xs.length) (hk:(xs.take k).any p=false) (e:p xs[k]=false):(xs.take (k+1)).any p=false:=by
 rw [List.take_succ_eq_append_getElem h,List.any_append,hk];simpa using e
theorem any_yes {α:Type} {p:α->Bool} {xs:List α} (h:k<xs.length) (e:p xs[k]=true):xs.any p=true:=by
 rw [List.any_eq_true];exact ⟨xs[k],List.getElem_mem h,e⟩
theorem any_end {α:Type} {p:α->Bool} {xs:List α} (h:k=xs.length) (hk:(xs.take k).any p=false):xs.any p=false:=by
 rwa [List.take_of_length_le (by omega)] at hk
theorem lin_cells {b off n cap:Nat} {xs:List Ln} (h:IsSl 4 LnEl lo w (.slice (some ⟨b,off,none⟩) n cap) xs) (k:Nat) (hk:k<xs.length):w.cell? ⟨b,off+k*4,none⟩=some (.int .i64 xs[k].c)/\w.cell? ⟨b,off+k*4+1,none⟩=some (.int .i64 xs[k].n)/\w.cell? ⟨b,off+k*4+2,none⟩=some (.int .i64 xs[k].t)/\w.cell? ⟨b,off+k*4+3,none⟩=some (.int .i64 xs[k].f):=by
 obtain ⟨b',off',cs,ha,_,_,_,hc,hel⟩:=h.at k hk
 cases ha
 have h0:=hc 0 (by omega)
 have h1:=hc 1 (by omega)
 have h2:=hc 2 (by omega)
 have h3:=hc 3 (by omega)
 rw [hel.1] at h0 h1 h2 h3
 exact ⟨h0.trans rfl,h1.trans rfl,h2.trans rfl,h3.trans rfl⟩
theorem Zcn {xs:List Ln} (h:IsSl 4 LnEl lo w v xs) :
 Calls Tryz.prog 117 #[v,.func (.func 93) #[] #[]] w λe w'=>∃ i:Int,e = .returned (.int .i64 i)/\(decide (0<=i))=xs.any lrgL/\Below w.heap.size w w':=by
 have hn:=h.bound
 have H:=Lib.hid h
 rcases Wo h with ⟨rfl,a,c,rfl⟩ | ⟨b,off,c,rfl,hbw,_⟩
 ·clear h
  go_enter func117,ntmps117
  go_wp2_with fail
  refine wp_loop_rounds 1 ?_
  rw [rounds_succ]
  go_wp2_with fail
  go_ret
  exact ⟨-1,rfl,rfl,Below.refl _ _⟩
 generalize hN:xs.length=n at hn
 have HN:=Lib.hid hN
 rw [hN] at H
 clear h hN
 go_enter func117,ntmps117
 go_wp2_with fail
 go_loopw [8] (λu wr=>∃ k:Nat,k<=n/\u = .int .i64 k/\(xs.take k).any lrgL=false/\Below w.heap.size w wr) (λu _=>n-(intOf u).toNat)
 case atStart=>exact ⟨0,Nat.zero_le _,rfl,rfl,Below.refl _ _⟩
 case round =>
  obtain ⟨k,hk,rfl,hs,hB⟩:=hrel
  have HS:=Lib.hid hs
  have HB:=Lib.hid hB
  clear hs hB
  by_cases h1:k<n
  ·have hkx:k<xs.length:=by rw [HN.out];exact h1
   obtain ⟨g1,g2,g3,g4⟩:=lin_cells H.out k hkx
   have k1:=(HB.out.cell (p:=⟨b,off+k*4,none⟩) hbw).trans g1
   have k2:=(HB.out.cell (p:=⟨b,off+k*4+1,none⟩) hbw).trans g2
   have k3:=(HB.out.cell (p:=⟨b,off+k*4+2,none⟩) hbw).trans g3
   have k4:=(HB.out.cell (p:=⟨b,off+k*4+3,none⟩) hbw).trans g4
   have HYES:=Lib.hid (λh=>any_yes (p:=lrgL) hkx h)
   have HNO:=Lib.hid (λh=>any_succ (p:=lrgL) hkx HS.out h)
   generalize xs[k]=x at k1 k2 k3 k4 HYES HNO
   clear g1 g2 g3 g4
   cases he:smL x.c x.n x.t x.f with
   | false =>
     have HE:=Lib.hid he
     clear he
     go_wp2_with (go_at_call 93;(with_reducible refine (YE _ _ _ _ _).mono ?_);rw [HE.out];rintro e w1 ⟨rfl,hb1⟩;have HB1:=Lib.hid hb1;clear hb1)
     go_ret
     exact ⟨k,rfl,by rw [HYES.out (by unfold lrgL;rw [HE.out];rfl)];simp,Zq HB.out HB1.out⟩
   | true =>
     have HE:=Lib.hid he
     clear he
     go_wp2_with (go_at_call 93;(with_reducible refine (YE _ _ _ _ _).mono ?_);rw [HE.out];rintro e w1 ⟨rfl,hb1⟩;have HB1:=Lib.hid hb1;clear hb1)
     go_roundw
     case rel=>exact ⟨k+1,by omega,by go_num,HNO.out (by unfold lrgL;rw [HE.out];rfl),Zq HB.out HB1.out⟩
     case measure=>simp [intOf];omega
  have HE:=Lib.hid (any_end (by rw [HN.out];omega) HS.out)
  go_wp2_with fail
  go_ret
  exact ⟨-1,rfl,by rw [HE.out];rfl,HB.out⟩
theorem YZ {xs:List Ln} (h:IsSl 4 LnEl lo w v xs) :
 Calls Tryz.prog 92 #[v,.func (.func 93) #[] #[]] w λe w'=>e = .returned (.bool (xs.any λl => !smL l.c l.n l.t l.f))/\Below w.heap.size w w':=by
 have HI:=Lib.hid (Zcn h)
 clear h
 go_enter func92,ntmps92
 go_wp2_with (go_at_call 117;refine Calls.mono (show Calls _ _ _ _ _ from HI.out) ?_;rintro e w1 ⟨i,rfl,hi,hb⟩;have HI2:=Lib.hid hi;have HB:=Lib.hid hb;clear hi hb)
 go_ret
 exact ⟨Zt HI2.out,HB.out⟩
end Go.Proofs.YtmpgnibfhjdfpaaGreat
