import Derived.Test.YthefecaefbeidaaGreatGrpgojjocei
set_option linter.all false
namespace Go.Proofs.YthefecaefbeidaaGreat
open Go.RowKit Go.Deep
set_option maxHeartbeats 12800000
def IsStrs (lo:Nat) (w:World) (v:Value) (xs:List ByteArray):Prop :=
 ∃ (a:Option Addr) (cap:Nat),v = .slice a xs.length cap∧xs.length≤cap∧cap≤maxLen∧((∀ x∈xs,x.size≤maxLen)∧(a=none→cap=0)) ∧
  (xs=[]∨∃ b off,a=some ⟨b,off,none⟩∧lo≤b∧b<w.heap.size∧∀ i,i<xs.length→w.cell? ⟨b,off+i,none⟩=some (.string (xs.getD i ⟨#[]⟩)))
variable {lo:Nat}{v:Value}{xs:List ByteArray}
theorem IsStrs.below {w w':World} (h:IsStrs lo w v xs) (hb:Below w.heap.size w w'):IsStrs lo w' v xs:=by
 obtain ⟨a,cap,hv,hl,hm,hi,hc⟩:=h
 refine ⟨a,cap,hv,hl,hm,hi,?_⟩
 rcases hc with hc | ⟨b,off,ha,hlo,hbk,hcell⟩
 ·exact .inl hc
 exact .inr ⟨b,off,ha,hlo,Nat.lt_of_lt_of_le hbk hb.size,fun i hi=>(hb.cell (p:=⟨b,off+i,none⟩) hbk).trans (hcell i hi)⟩
variable {w:World}
theorem IsStrs.mono {lo lo':Nat} (h:IsStrs lo w v xs) (hl:lo'≤lo):IsStrs lo' w v xs:=by
 obtain ⟨a,cap,hv,h1,hm,hi,hc⟩:=h
 refine ⟨a,cap,hv,h1,hm,hi,?_⟩
 rcases hc with hc | ⟨b,off,ha,hlo,r⟩
 ·exact .inl hc
 exact .inr ⟨b,off,ha,Nat.le_trans hl hlo,r⟩
theorem IsStrs.shape (h:IsStrs lo w v xs):∃ a cap,v = .slice a xs.length cap:=by
 obtain ⟨a,cap,hv,_⟩:=h
 exact ⟨a,cap,hv⟩
def hasT (xs:List ByteArray) (s:ByteArray):Bool:=xs.any fun x=>x.toList==s.toList
def hasK (xs:List ByteArray) (s:ByteArray) (k:Nat):Bool:=(xs.take k).any fun x=>x.toList==s.toList
variable {s:ByteArray}{k:Nat}
theorem hasK_succ (h:k<xs.length) (hk:hasK xs s k=false) (hp:(xs[k].toList==s.toList)=false):hasK xs s (k+1)=false:=by
 unfold hasK at *;rw [List.take_succ_eq_append_getElem h,List.any_append,hk];simp only [List.any_cons,List.any_nil,hp,Bool.or_self]
theorem hasT_yes (h:k<xs.length) (hp:(xs[k].toList==s.toList)=true):hasT xs s=true:=by
 unfold hasT;rw [List.any_eq_true];exact ⟨xs[k],List.getElem_mem h,hp⟩
theorem hasT_no (h:k=xs.length) (hk:hasK xs s k=false):hasT xs s=false:=by
 unfold hasK at hk;rwa [List.take_of_length_le (by omega)] at hk
theorem ZcD (b off n cap:Nat) (s:ByteArray) (w:World) (xs:List ByteArray) (hx:xs.length=n) (hn:n≤9223372036854775807)
 (hc:∀ i,i<n→w.cell? ⟨b,off+i,none⟩=some (.string (xs.getD i ⟨#[]⟩))) :
 Calls Tryz.prog 167 #[.slice (some ⟨b,off,none⟩) n cap,.string s] w fun e w'=>e = .returned (.bool (hasT xs s))∧w=w':=by
 go_enter Tryz.func167,Tryz.ntmps167
 go_wp2_with fail
 go_loop [5] (fun v=>∃ k:Nat,k≤n∧v = .int .i64 k∧hasK xs s k=false) (fun v=>n-(intOf v).toNat)
 case atStart=>exact ⟨0,Nat.zero_le _,rfl,rfl⟩
 case round =>
  obtain ⟨k,hk,rfl,hall⟩:=hrel
  have HA:=Lib.hid hall
  clear hall
  by_cases h1:k<n
  ·have hxk:xs.getD k ⟨#[]⟩=xs[k]:=by simp [List.getD,List.getElem?_eq_getElem (show k<xs.length by omega)]
   have g1:w.cell? ⟨b,off+k,none⟩=some (.string xs[k]):=(hc k h1).trans (by rw [hxk])
   clear hxk
   cases h2:(xs[k].toList==s.toList) with
   | true =>
     go_wp2_with fail
     go_ret
     exact ⟨Zh (by rw [hasT_yes (k:=k) (by omega) h2]),rfl⟩
   | false =>
     go_wp2_with fail
     go_round
     case rel=>exact ⟨k+1,by omega,by go_num,hasK_succ (by omega) HA.out h2⟩
     case measure=>simp [intOf];omega
  go_wp2_with fail
  go_ret
  exact ⟨Zh (by rw [hasT_no (by omega) HA.out]),rfl⟩
theorem ZbI (a:Option Addr) (cap:Nat) (s:ByteArray) (w:World) :
 Calls Tryz.prog 167 #[.slice a 0 cap,.string s] w fun e w'=>e = .returned (.bool (hasT [] s))∧w=w':=by
 go_enter Tryz.func167,Tryz.ntmps167
 go_wp2_with fail
 refine wp_loop_rounds 1 ?_
 rw [rounds_succ]
 go_wp2_with fail
 go_ret
 exact ⟨rfl,rfl⟩
theorem Zax (s:ByteArray) (h:IsStrs lo w v xs) :
 Calls Tryz.prog 167 #[v,.string s] w fun e w'=>e = .returned (.bool (hasT xs s))∧w=w':=by
 obtain ⟨a,cap,rfl,hl,hm,hi,hc⟩:=h
 unfold maxLen at hm
 rcases hc with rfl | ⟨b,off,rfl,_,hb,hc⟩
 ·exact ZbI _ _ _ _
 exact ZcD _ _ _ _ _ _ _ rfl (by omega) hc
theorem Zbf (w:World) (t:TypeId) (xs:List ByteArray) (n:Nat) (cs:Array Value) (hn:n=xs.length) (hc:cs=(xs.map Value.string).toArray) (hm:xs.length≤maxLen) (hx:∀ x∈xs,x.size≤maxLen) :
 IsStrs w.heap.size (w.alloc (.cells cs t)) (.slice (some ⟨w.heap.size,0,none⟩) n n) xs:=by
 subst hn;subst hc
 refine ⟨_,_,rfl,Nat.le_refl _,hm,⟨hx,fun e=>by cases e⟩,.inr ⟨w.heap.size,0,rfl,Nat.le_refl _,by simp,fun i hi => ?_⟩⟩
 simp [hi]
theorem resW_small:∀ x∈resW.map (fun l=>(⟨l.toArray⟩:ByteArray)),x.size≤maxLen:=by
 intro x hx
 obtain ⟨l,hl,rfl⟩:=List.mem_map.1 hx
 have:∀ l∈resW,l.length≤12:=by decide
 have h:=this l hl
 have e:(⟨l.toArray⟩:ByteArray).size=l.length:=by simp [ByteArray.size]
 rw [e];unfold maxLen;omega
set_option maxRecDepth 100000 in
theorem Zb1 (w:World) :
 Calls Tryz.prog 171 #[] w fun e w'=>∃ v,e = .returned v∧IsStrs w.heap.size w' v (resW.map fun l=>⟨l.toArray⟩)∧Below w.heap.size w w':=by
 go_enter Tryz.func171,Tryz.ntmps171
 go_wp2
 go_ret
 exact ⟨_,rfl,Zbf w _ _ 43 _ rfl rfl (by unfold maxLen;simp [resW]) resW_small,Ze _ _⟩
theorem hasT_resW (s:ByteArray):hasT (resW.map fun l=>⟨l.toArray⟩) s=resB s.toList:=by
 unfold hasT resB
 rw [List.any_map]
 congr 1
 funext l
 simp only [Function.comp,ByteArray.toList_mk]
 rw [Bool.eq_iff_iff,beq_iff_eq,beq_iff_eq];exact eq_comm
theorem ZaD (s:ByteArray) (w:World) (hs:s.size≤maxLen) :
 Calls Tryz.prog 122 #[.string s] w fun e w'=>e = .returned (.bool (nameB s.toList))∧Below w.heap.size w w':=by
 unfold maxLen at hs
 have e:Hid (nameB s.toList=(decide (1≤s.toList.length)&&decide (s.toList.length≤12) && !resB s.toList&&upB s.toList s.toList.length)):=(rfl:nameB _=_)
 have el:=Lib.hid (Z9 s)
 have E1:inB 1 12 (s.size:Int)=(decide (1≤s.size)&&decide (s.size≤12)):=by unfold inB;congr 1<;>(rw [decide_eq_decide];omega)
 by_cases h1:1≤s.size∧s.size≤12
 ·have h2:inB 1 12 (s.size:Int)=true:=by rw [E1];simp [h1]
  clear E1
  have hp0:0<s.size:=by omega
  have hg0:s.toList[0]'(by rw [Z9];exact hp0)=s[0]:=by have:=Zbw s 0 hp0;rw [← this];simp [List.getD,Z9,hp0]
  have E0:leB s[0]=(decide (97≤(s[0].toNat:Int))&&decide ((s[0].toNat:Int)≤122)):=rfl
  by_cases f1:97≤(s[0].toNat:Int)
  ·by_cases f2:(s[0].toNat:Int)≤122
   ·have HL:=Lib.hid (show leB s[0]=true by rw [E0];simp only [f1,f2,decide_true,Bool.and_self])
    have HG:=Lib.hid hg0
    clear E0 hg0
    go_enter Tryz.func122,Tryz.ntmps122
    go_wp2_with (first | (go_at_call 125;refine (Yb _ _ _ _).mono ?_;rintro e w' ⟨rfl,rfl⟩))
    go_loop [3] (fun v=>∃ k:Nat,k≤s.size∧v = .int .i64 k∧reB s.toList k=true) (fun v=>s.size-(intOf v).toNat)
    case atStart=>exact ⟨0,Nat.zero_le _,rfl,rfl⟩
    case round =>
     obtain ⟨k,hk,rfl,hup⟩:=hrel
     have HU:=Lib.hid hup
     clear hup
     by_cases hlt:k<s.size
     ·have hgk:s.toList[k]'(by rw [Z9];exact hlt)=s[k]:=by have:=Zbw s k hlt;rw [← this];simp [List.getD,Z9,hlt]
      have HY:=Lib.hid (fun (h:(leB s[k]||diB s[k])=true)=>reB_succ (by rw [Z9];exact hlt) HU.out (by rw [hgk];exact h))
      have HN:=Lib.hid (fun (h:(leB s[k]||diB s[k])=false)=>reB_no (l:=s.toList) (k:=k) (by rw [Z9];exact hlt) (by rw [hgk];exact h))
      clear hgk
      have hcl:(97≤(s[k].toNat:Int)∧(s[k].toNat:Int)≤122)∨(48≤(s[k].toNat:Int)∧(s[k].toNat:Int)≤57)∨(s[k].toNat:Int)=95∨(s[k].toNat:Int)<48∨(57<(s[k].toNat:Int)∧(s[k].toNat:Int)<97∧(s[k].toNat:Int)≠95)∨122<(s[k].toNat:Int):=by omega
      rcases hcl with ⟨c1,c2⟩ | ⟨c1,c2⟩ | c1 | c1 | ⟨c1,c2,c3⟩ | c1
      ·have HA:=Lib.hid (HY.out (by have:leB s[k]=true:=(by unfold leB;simp;omega);rw [this];rfl))
       clear HY HN
       go_wp2_with fail
       all_goals
        go_round
        case rel=>exact ⟨k+1,by omega,by go_num,HA.out⟩
        case measure=>simp [intOf];omega
      ·have HA:=Lib.hid (HY.out (by have:diB s[k]=true:=(by unfold diB;simp;omega);rw [this];simp))
       have c3:(s[k].toNat:Int)<97:=by omega
       clear HY HN
       go_wp2_with fail
       all_goals
        go_round
        case rel=>exact ⟨k+1,by omega,by go_num,HA.out⟩
        case measure=>simp [intOf];omega
      ·have HA:=Lib.hid (HY.out (by have:diB s[k]=true:=(by unfold diB;simp;omega);rw [this];simp))
       have c2:57<(s[k].toNat:Int):=by omega
       have c3:(s[k].toNat:Int)<97:=by omega
       have c4:((s[k].toNat:Int)==95)=true:=by rw [beq_iff_eq];exact c1
       have c5:((s[k].toNat:Int) != 95)=false:=by rw [bne,c4];rfl
       have d0:48≤(s[k].toNat:Int):=by omega
       clear c1
       clear HY HN
       go_wp2_with fail
       all_goals
        go_round
        case rel=>exact ⟨k+1,by omega,by go_num,HA.out⟩
        case measure=>simp [intOf];omega
      ·have HA:=Lib.hid (HN.out (by have a:leB s[k]=false:=(by unfold leB;simp;omega);have b:diB s[k]=false:=(by unfold diB;simp;omega);rw [a,b];rfl))
       have c4:((s[k].toNat:Int)==95)=false:=by rw [beq_eq_false_iff_ne];omega
       have c5:((s[k].toNat:Int) != 95)=true:=by rw [bne,c4];rfl
       clear HY HN
       go_wp2_with fail
       all_goals
        go_ret
        exact ⟨Zh (by rw [e.out,W5 (by rw [Z9];exact hp0),HA.out];simp),Below.refl _ _⟩
      ·have HA:=Lib.hid (HN.out (by have a:leB s[k]=false:=(by unfold leB;simp;omega);have b:diB s[k]=false:=(by unfold diB;simp;omega);rw [a,b];rfl))
       have c4:((s[k].toNat:Int)==95)=false:=by rw [beq_eq_false_iff_ne];omega
       have c5:((s[k].toNat:Int) != 95)=true:=by rw [bne,c4];rfl
       have d0:48≤(s[k].toNat:Int):=by omega
       have d1:decide ((s[k].toNat:Int)≤57)=false:=by rw [decide_eq_false_iff_not];omega
       clear c3
       clear HY HN
       go_wp2_with fail
       all_goals
        go_ret
        exact ⟨Zh (by rw [e.out,W5 (by rw [Z9];exact hp0),HA.out];simp),Below.refl _ _⟩
      have HA:=Lib.hid (HN.out (by have a:leB s[k]=false:=(by unfold leB;simp;omega);have b:diB s[k]=false:=(by unfold diB;simp;omega);rw [a,b];rfl))
      have c4:((s[k].toNat:Int)==95)=false:=by rw [beq_eq_false_iff_ne];omega
      have c5:((s[k].toNat:Int) != 95)=true:=by rw [bne,c4];rfl
      have d0:48≤(s[k].toNat:Int):=by omega
      have d1:decide ((s[k].toNat:Int)≤57)=false:=by rw [decide_eq_false_iff_not];omega
      have d2:decide ((s[k].toNat:Int)≤122)=false:=by rw [decide_eq_false_iff_not];omega
      have d3:97≤(s[k].toNat:Int):=by omega
      have d4:57<(s[k].toNat:Int):=by omega
      clear HY HN
      go_wp2_with fail
      all_goals
       go_ret
       exact ⟨Zh (by rw [e.out,W5 (by rw [Z9];exact hp0),HA.out];simp),Below.refl _ _⟩
     have HE:=Lib.hid (show nameB s.toList = !resB s.toList by
      rw [e.out,W5 (by rw [Z9];exact hp0),HG.out,HL.out,el.out,decide_eq_true h1.1,decide_eq_true h1.2]
      have:s.size=k:=by omega
      rw [this,HU.out];simp)
     clear HU
     go_wp2_with (first | (go_at_call 171;refine (Zb1 _).mono ?_;rintro e w1 ⟨v,rfl,hv,hb1⟩;have HV:=Lib.hid hv;clear hv) | (go_at_call 167;refine (Zax _ HV.out).mono ?_;rintro e w' ⟨rfl,rfl⟩))
     go_ret
     exact ⟨Zh (by rw [hasT_resW,HE.out]),hb1⟩
   have f2':(122:Int)<(s[0].toNat:Int):=by omega
   have HL:=Lib.hid (show leB s[0]=false by rw [E0];simp only [f1,f2,decide_true,decide_false,Bool.and_false])
   have HG:=Lib.hid hg0
   clear E0 hg0
   go_enter Tryz.func122,Tryz.ntmps122
   go_wp2_with (first | (go_at_call 125;refine (Yb _ _ _ _).mono ?_;rintro e w' ⟨rfl,rfl⟩))
   go_ret
   exact ⟨Zh (by rw [e.out,ZbO (by rw [Z9];exact hp0) (by rw [HG.out];exact HL.out)];simp),Below.refl _ _⟩
  have f1':(s[0].toNat:Int)<97:=by omega
  have HL:=Lib.hid (show leB s[0]=false by rw [E0];simp only [f1,decide_false,Bool.false_and])
  have HG:=Lib.hid hg0
  clear E0 hg0
  go_enter Tryz.func122,Tryz.ntmps122
  go_wp2_with (first | (go_at_call 125;refine (Yb _ _ _ _).mono ?_;rintro e w' ⟨rfl,rfl⟩))
  go_ret
  exact ⟨Zh (by rw [e.out,ZbO (by rw [Z9];exact hp0) (by rw [HG.out];exact HL.out)];simp),Below.refl _ _⟩
 have h2:inB 1 12 (s.size:Int)=false:=by rw [E1];simp;omega
 clear E1
 go_enter Tryz.func122,Tryz.ntmps122
 go_wp2_with (first | (go_at_call 125;refine (Yb _ _ _ _).mono ?_;rintro e w' ⟨rfl,rfl⟩))
 go_ret
 exact ⟨Zh (by rw [e.out,el.out];have:=h1;revert this;by_cases a:1≤s.size<;>by_cases b:s.size≤12<;>simp [a,b]),Below.refl _ _⟩
end Go.Proofs.YthefecaefbeidaaGreat
