import Derived.Test.YtdbehgbggaaipaaGreatGrplaoagcdj
import Derived.Test.YtdbehgbggaaipaaGreatGrpghglnpgc
import Derived.Test.YtdbehgbggaaipaaGreatGrpdablmfch
set_option linter.all false
namespace Go.Proofs.YtdbehgbggaaipaaGreat
open Go.RowKit Go.Deep
set_option maxHeartbeats 12800000
structure Sz where
 n:Int
 t:Int
 f:Int
 deriving DecidableEq,Inhabited
def szC (s:Sz):List Value:=[.int .i64 s.n,.int .i64 s.t,.int .i64 s.f]
def szI (s:Sz):Prop:=I64 s.n∧I64 s.t∧I64 s.f
def SzEl (_:Nat) (_:World) (cs:List Value) (s:Sz):Prop:=cs=szC s∧szI s
theorem ZdB:∀ (l:List Sz) (i:Nat) (hi:i<l.length) (j:Nat),j<3→(l.flatMap szC)[i*3+j]? = (szC l[i])[j]?
 | [],i,hi,_,_=>absurd hi (by simp)
 | x::xs,0,_,j,hj=>by
   rw [List.flatMap_cons,List.getElem?_append_left (by simp [szC];omega)]
   simp
 | x::xs,i+1,hi,j,hj=>by
   rw [List.flatMap_cons,List.getElem?_append_right (by simp [szC];omega),show (i+1)*3+j-(szC x).length=i*3+j by simp [szC];omega]
   exact ZdB xs i (by simpa using hi) j hj
def OwnSz (lo:Nat) (w:World) (v:Value) (l:List Sz):Prop:=w.ownsRow lo 29 3 v l.length (l.flatMap szC)∧∀ g∈l,szI g
theorem OwnSz.nil (lo:Nat) (w:World):OwnSz lo w (.slice none 0 0) []:=⟨World.ownsRow_nil _ _ _ _,by simp⟩
variable {lo:Nat}{v:Value}
theorem OwnSz.still {w w':World} {l:List Sz} (h:OwnSz lo w v l) (hb:Below w.heap.size w w'):OwnSz lo w' v l:=⟨ZdI h.1 hb,h.2⟩
variable {w:World}
theorem OwnSz.sl {l:List Sz} (h:OwnSz lo w v l):IsSl 3 SzEl lo w v l:=by
 obtain ⟨⟨hl,h2⟩,hI⟩:=h
 rcases h2 with ⟨rfl,h0⟩ | ⟨g,cap,cur,rfl,hb,hg,hn,hm,hc,ht⟩
 ·exact ⟨none,0,by rw [h0],by omega,by simp [maxLen],fun _=>rfl,.inl (List.eq_nil_of_length_eq_zero h0)⟩
 refine ⟨_,_,rfl,hn,hm,by simp,.inr ⟨g,0,rfl,hb,(Array.getElem?_eq_some_iff.1 hg).1,fun i hi=>⟨szC l[i],rfl,fun j hj => ?_,rfl,hI _ (List.getElem_mem hi)⟩⟩⟩
 have hcell:w.cell? ⟨g,0+i*3+j,none⟩=cur[i*3+j]? := by
  simp only [World.cell?,hg];simp
 rw [hcell,← Array.getElem?_toList,show cur.toList[i*3+j]? = (cur.toList.take (l.length*3))[i*3+j]? by rw [List.getElem?_take_of_lt (by omega)],ht]
 exact ZdB l i hi j hj
variable {q:Fm}
set_option maxRecDepth 100000 in
theorem Zb8 (n t f:Int) (hq:IsFam lo w v q) :
 Calls Tryz.prog 47 #[v,.agg #[.int .i64 n,.int .i64 t,.int .i64 f]] w fun e w'=>e = .returned (.bool (decide (valE q=0)&&admB q n t f))∧Below w.heap.size w w':=by
 have HQ:=Lib.hid hq
 obtain ⟨v2,v3,v4,v6,v7,v8,v9,rfl,hnm,_,h2,h3,h4,_,h6,h7,h8,h9⟩:=hq
 obtain ⟨a2,c2,rfl⟩:=h2.shape
 obtain ⟨a3,c3,rfl⟩:=h3.shape
 obtain ⟨a4,c4,rfl⟩:=h4.shape
 obtain ⟨a6,c6,rfl⟩:=h6.shape
 obtain ⟨a7,c7,rfl⟩:=h7.shape
 obtain ⟨a8,c8,rfl⟩:=h8.shape
 obtain ⟨a9,c9,rfl⟩:=h9.shape
 have H9:=Lib.hid h9
 clear hnm h2 h3 h4 h6 h7 h8 h9
 clear H9
 go_enter Tryz.func47,Tryz.ntmps47
 go_upto_region 1 with (fail)
 obtain ⟨W,hW⟩:∃ W:World,W=(w.alloc (.cells #[.string q.nm,.int .i64 q.top,.slice a2 q.sz.length c2,.slice a3 q.msgs.length c3,.slice a4 q.vals.length c4,.int .i64 q.fzz,.slice a6 q.res.length c6,.slice a7 q.init.length c7,.slice a8 q.lz.length c8,.slice a9 q.rz.length c9] 27)).alloc (.cells #[.int .i64 n,.int .i64 t,.int .i64 f] 29):=⟨_,rfl⟩
 rw [← hW]
 have WB:=Lib.hid (show Below w.heap.size w W by rw [hW];go_grown)
 have WP:=Lib.hid (show W.heap[w.heap.size]? = some (.cells #[.string q.nm,.int .i64 q.top,.slice a2 q.sz.length c2,.slice a3 q.msgs.length c3,.slice a4 q.vals.length c4,.int .i64 q.fzz,.slice a6 q.res.length c6,.slice a7 q.init.length c7,.slice a8 q.lz.length c8,.slice a9 q.rz.length c9] 27 (0,0)) by rw [hW];exact (ZaI _ _ (by simp)).trans (ZY _ _ rfl))
 have WS:=Lib.hid (show W.heap[w.heap.size+1]? = some (.cells #[.int .i64 n,.int .i64 t,.int .i64 f] 29 (0,0)) by rw [hW];exact ZY _ _ (by simp))
 clear hW
 have WPn:=Lib.hid (show ∀ n:WIn (Below W.heap.size W),n.val.heap[w.heap.size]? = some (.cells #[.string q.nm,.int .i64 q.top,.slice a2 q.sz.length c2,.slice a3 q.msgs.length c3,.slice a4 q.vals.length c4,.int .i64 q.fzz,.slice a6 q.res.length c6,.slice a7 q.init.length c7,.slice a8 q.lz.length c8,.slice a9 q.rz.length c9] 27 (0,0)) from fun n=>keepB WP.out n.ok)
 have WBn:=Lib.hid (show ∀ n:WIn (Below W.heap.size W),Below w.heap.size w n.val from fun n=>Ze WB.out n.ok)
 have WSn:=Lib.hid (show ∀ n':WIn (Below W.heap.size W),n'.val.heap[w.heap.size+1]? = some (.cells #[.int .i64 n,.int .i64 t,.int .i64 f] 29 (0,0)) from fun n'=>keepB WS.out n'.ok)
 have s0:∀ n':WIn (Below W.heap.size W),n'.val.cell? ⟨w.heap.size+1,0,none⟩=some (.int .i64 n):=fun n'=>ZH (WSn.out n') 0 rfl
 have s1:∀ n':WIn (Below W.heap.size W),n'.val.cell? ⟨w.heap.size+1,1,none⟩=some (.int .i64 t):=fun n'=>ZH (WSn.out n') 1 rfl
 have s2:∀ n':WIn (Below W.heap.size W),n'.val.cell? ⟨w.heap.size+1,2,none⟩=some (.int .i64 f):=fun n'=>ZH (WSn.out n') 2 rfl
 by_cases v0:valE q=0
 ·have V0:=Lib.hid v0
  clear v0
  refine Zz ?_
  refine BigFrame.wpQuiet_want (by rfl) (fun K hK => ?_)
  refine Yi Tryz.underlying27 YK (.tmp 2) (by rfl) w.heap.size 0 [.string q.nm,.int .i64 q.top,.slice a2 q.sz.length c2,.slice a3 q.msgs.length c3,.slice a4 q.vals.length c4,.int .i64 q.fzz,.slice a6 q.res.length c6,.slice a7 q.init.length c7,.slice a8 q.lz.length c8,.slice a9 q.rz.length c9] (by rfl) (by rfl) (by rintro _ ⟨n',rfl⟩;exact ZT (WPn.out n')) (hK _ ?_)
  clear hK K
  simp only [Act.put,List.setIfInBounds_toArray,List.set_cons_succ,List.set_cons_zero]
  go_big_quiet_step (((with_reducible refine (W9 (HQ.out.below (WBn.out _))).mono ?_);rw [V0.out];rintro e w1 ⟨rfl,hb⟩;exact ⟨rfl,⟨w1,Ze (WIn.ok _) hb⟩,rfl⟩))
  iterate 2 go_big_quiet_step (fail)
  refine BigFrame.wpQuiet_want (by rfl) (fun K hK => ?_)
  refine Yi Tryz.underlying27 YK (.tmp 2) (by rfl) w.heap.size 0 [.string q.nm,.int .i64 q.top,.slice a2 q.sz.length c2,.slice a3 q.msgs.length c3,.slice a4 q.vals.length c4,.int .i64 q.fzz,.slice a6 q.res.length c6,.slice a7 q.init.length c7,.slice a8 q.lz.length c8,.slice a9 q.rz.length c9] (by rfl) (by rfl) (by rintro _ ⟨n',rfl⟩;exact ZT (WPn.out n')) (hK _ ?_)
  clear hK K
  simp only [Act.put,List.setIfInBounds_toArray,List.set_cons_succ,List.set_cons_zero]
  iterate 1 go_big_quiet_step (fail)
  go_big_quiet_step (((with_reducible refine (admits_any n t f (HQ.out.below (WBn.out _))).mono ?_);rintro e w1 ⟨rfl,hb⟩;exact ⟨rfl,⟨w1,Ze (WIn.ok _) hb⟩,rfl⟩))
  repeat (go_big_quiet_step (fail))
  refine wpQuiet_nil ?_
  intro n'
  go_wp2_with fail
  go_ret
  exact ⟨Zi (by rw [V0.out];simp),WBn.out n'⟩
 have V0:=Lib.hid v0
 have i0:(valE q==0)=false:=by simpa using v0
 clear v0
 refine Zz ?_
 refine BigFrame.wpQuiet_want (by rfl) (fun K hK => ?_)
 refine Yi Tryz.underlying27 YK (.tmp 2) (by rfl) w.heap.size 0 [.string q.nm,.int .i64 q.top,.slice a2 q.sz.length c2,.slice a3 q.msgs.length c3,.slice a4 q.vals.length c4,.int .i64 q.fzz,.slice a6 q.res.length c6,.slice a7 q.init.length c7,.slice a8 q.lz.length c8,.slice a9 q.rz.length c9] (by rfl) (by rfl) (by rintro _ ⟨n',rfl⟩;exact ZT (WPn.out n')) (hK _ ?_)
 clear hK K
 simp only [Act.put,List.setIfInBounds_toArray,List.set_cons_succ,List.set_cons_zero]
 go_big_quiet_step (((with_reducible refine (W9 (HQ.out.below (WBn.out _))).mono ?_);rintro e w1 ⟨rfl,hb⟩;exact ⟨rfl,⟨w1,Ze (WIn.ok _) hb⟩,rfl⟩))
 repeat (go_big_quiet_step (fail))
 refine wpQuiet_nil ?_
 intro n'
 go_wp2_with fail
 go_ret
 exact ⟨Zi (by simp [V0.out]),WBn.out n'⟩
section
variable {F ok:Nat→Prop} {lo:Nat} {w:World}
theorem ln_pu (l:Ln) (vs:List Value) (h:LnEl lo w vs l):∀ j (hj:j<(cLn l).length),Pu F w ok (cLn l)[j] (vs.getD j undef):=by
 obtain ⟨rfl,_⟩:=h
 intro j hj
 match j,hj with
 | 0,_=>exact .v _
 | 1,_=>exact .v _
 | 2,_=>exact .v _
 | 3,_=>exact .v _
theorem str_pu (s:ByteArray) (vs:List Value) (h:StrEl lo w vs s):∀ j (hj:j<[sv s].length),Pu F w ok [sv s][j] (vs.getD j undef):=by
 obtain ⟨rfl,_⟩:=h
 intro j hj
 match j,hj with
 | 0,_=>exact .v _
theorem ru_pu (hok:∀ b,lo≤b→b<w.heap.size→ok b) (r:Ru) (vs:List Value) (h:RuEl lo w vs r):∀ j (hj:j<(cRu r).length),Pu F w ok (cRu r)[j] (vs.getD j undef):=by
 obtain ⟨v6,v7,v8,v9,v12,v14,v15,v16,rfl,h0,h1,h2,h3,h4,h5,h6,h7,h8,h9,h10,h11,h12,h13,h14,h15,h16,h17⟩:=h
 intro j hj
 match j,hj with
 | 0,_=>exact .v _
 | 1,_=>exact .v _
 | 2,_=>exact .v _
 | 3,_=>exact .v _
 | 4,_=>exact .v _
 | 5,_=>exact .v _
 | 6,_=>exact YA hok h6
 | 7,_=>exact sl_pu lenTh hok th_pu h7
 | 8,_=>exact YA hok h8
 | 9,_=>exact YA hok h9
 | 10,_=>exact .v _
 | 11,_=>exact .v _
 | 12,_=>exact YA hok h12
 | 13,_=>exact .v _
 | 14,_=>exact YA hok h14
 | 15,_=>exact YA hok h15
 | 16,_=>exact YA hok h16
 | 17,_=>exact .v _
 | j+18,hj=>exact absurd hj (by rw [lenRu];omega)
theorem Zez (hok:∀ b,lo≤b→b<w.heap.size→ok b) {xs:List ByteArray} (h:IsSl 1 StrEl lo w v xs):Pu F w ok (ZW xs) v:=by
 rw [fst1];exact sl_pu lenStr hok str_pu h
theorem fam_pu (hok:∀ b,lo≤b→b<w.heap.size→ok b) (h:IsFam lo w v q):Pu F w ok (.agg (cFm q)) v:=by
 obtain ⟨v2,v3,v4,v6,v7,v8,v9,rfl,h0,h1,h2,h3,h4,h5,h6,h7,h8,h9⟩:=h
 refine .agg rfl fun j hj => ?_
 match j,hj with
 | 0,_=>exact .v _
 | 1,_=>exact .v _
 | 2,_=>exact Zez hok h2
 | 3,_=>exact Zez hok h3
 | 4,_=>exact Zez hok h4
 | 5,_=>exact .v _
 | 6,_=>exact sl_pu lenLn hok ln_pu h6
 | 7,_=>exact YA hok h7
 | 8,_=>exact YA hok h8
 | 9,_=>exact sl_pu lenRu hok (ru_pu hok) h9
end
def cSz (n t f:Int):List AV:=[iv n,iv t,iv f]
theorem cells3 {vs:List Value} (h:vs.length=3):vs=[vs.getD 0 undef,vs.getD 1 undef,vs.getD 2 undef]:=by
 match vs,h with
 | [_,_,_],_=>rfl
variable {n t f:Int}
theorem sz_of {F ok:Nat→Prop} (h:Pu F w ok (.agg (cSz n t f)) v):v = .agg #[.int .i64 n,.int .i64 t,.int .i64 f]:=by
 obtain ⟨vs,rfl,hl,hv⟩:=YX h
 rw [cells3 hl,(hv 0 (by simp [cSz])).v_inv,(hv 1 (by simp [cSz])).v_inv,(hv 2 (by simp [cSz])).v_inv]
theorem famw (h:IsFam 0 w v q):Pu (fun _=>True) w (fun b=>b<w.heap.size) (.agg (cFm q)) v:=fam_pu (fun _ _ h=>h) h
section
variable {J:World→Prop}
theorem value_c (l:Ln) (a b d:Int):Ctr Tryz.prog J 96 [.agg (cLn l),.agg (cSz a b d)] (iv (linV l.c l.n l.t l.f a b d)):=ctr2 fun w v v' _ h h'=>by
 obtain ⟨vs,rfl,hl,hv⟩:=YX h
 have e:vs=[.int .i64 l.c,.int .i64 l.n,.int .i64 l.t,.int .i64 l.f]:=by
  rw [cells4 hl,(hv 0 (by simp [cLn])).v_inv,(hv 1 (by simp [cLn])).v_inv,(hv 2 (by simp [cLn])).v_inv,(hv 3 (by simp [cLn])).v_inv]
 subst e
 rw [sz_of h']
 exact (Y9 l.c l.n l.t l.f a b d w).mono fun _ _=>ret_sc
theorem ZcS (hq:FmOk q) (n t f:Int):Ctr Tryz.prog J 47 [.agg (cFm q),.agg (cSz n t f)] (bv (decide (valE q=0)&&admB q n t f)):=ctr2 fun w v v' _ h h'=>by
 rw [sz_of h'];exact (Zb8 n t f (fam_of hq lo0 h)).mono fun _ _=>ret_sc
def radA (n t f:Int):Bool:=(!inB 1 1048576 n || !inB 0 n t) || !inB 0 n f
def nofB (q:Fm) (t f:Int):Bool:=decide (q.fzz=0)&&(!decide (t=0) || !decide (f=0))
def resvK (q:Fm) (n t f:Int) (k:Nat):Bool:=(q.res.take k).all fun l=>decide (0≤linV l.c l.n l.t l.f n t f)
variable {k:Nat}
theorem resvK_succ (hk:k<q.res.length) (h:resvK q n t f k=true) (e:¬ linV q.res[k].c q.res[k].n q.res[k].t q.res[k].f n t f<0):resvK q n t f (k+1)=true :=
 ZaL hk h (by rw [decide_eq_true_eq];omega)
theorem radA_f (h:radA n t f=false):inB 1 1048576 n=true∧inB 0 n t=true∧inB 0 n f=true:=by
 unfold radA at h;simpa [and_assoc] using h
theorem adm_a (h:radA n t f=true):admB q n t f=false:=by
 unfold radA at h
 unfold admB
 simp only [Bool.or_eq_true,Bool.not_eq_true'] at h
 rcases h with (h | h) | h<;>simp [h]
theorem adm_r (hk:k<q.res.length) (e:linV q.res[k].c q.res[k].n q.res[k].t q.res[k].f n t f<0):admB q n t f=false:=by
 have:resvB q n t f=false:=Zet hk (by rw [decide_eq_false_iff_not];omega)
 unfold admB;rw [this,Bool.and_false]
theorem ZeP :nofB q t f=(decide (q.fzz=0) && !(decide (t=0)&&decide (f=0))):=by unfold nofB;simp
theorem adm_f (h:nofB q t f=true):admB q n t f=false:=by
 unfold admB;rw [← ZeP,h];simp
theorem adm_0 (h:radA n t f=false) (hr:resvK q n t f q.res.length=true) (hn:nofB q t f=false) (ht:¬ q.top=4):admB q n t f=true:=by
 have h2:resvB q n t f=true:=by unfold resvK at hr;rwa [List.take_length] at hr
 obtain ⟨a,b,c⟩:=radA_f h
 unfold admB;rw [← ZeP,hn,a,b,c,h2];simp [ht]
theorem adm_1 (h:radA n t f=false) (hr:resvK q n t f q.res.length=true) (hn:nofB q t f=false) (ht:q.top=4):admB q n t f=decide (n.tmod 2=1):=by
 have h2:resvB q n t f=true:=by unfold resvK at hr;rwa [List.take_length] at hr
 obtain ⟨a,b,c⟩:=radA_f h
 unfold admB;rw [← ZeP,hn,a,b,c,h2]
 have h1:1≤n:=by unfold inB at a;simp only [Bool.and_eq_true,decide_eq_true_eq] at a;omega
 have e:n.tmod 2=n % 2:=Int.tmod_eq_emod_of_nonneg (by omega)
 rw [Bool.eq_iff_iff,e]
 simp only [Bool.and_eq_true,Bool.not_eq_true',Bool.and_eq_false_iff,decide_eq_true_eq,decide_eq_false_iff_not,ht]
 simp
 omega
end
end Go.Proofs.YtdbehgbggaaipaaGreat
