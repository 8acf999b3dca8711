import Derived.Test.YthefecaefbeidaaGreatGrplffdbgib
import Derived.Test.YthefecaefbeidaaGreatGrpnmfedmfg
set_option linter.all false
namespace Go.Proofs.YthefecaefbeidaaGreat
open Go.RowKit Go.Deep
set_option maxHeartbeats 12800000
theorem Kj:(Tryz.prog.info? 113).map (·.size)=some 5:=by kernel_rfl
def clTh (q:Fm):Bool:=decide (q.top=1)&&(decide (q.vals.length=0) && !q.rz.any noThrB)
def clCo (q:Fm):Bool:=plainQ q && !q.rz.any demB
def clWo (q:Fm):Bool:=decide (q.top=2)||decide (q.top=3)
def clTr (q:Fm):Bool:=decide (q.top=4)
def clMo (q:Fm):Bool:=plainQ q&&decide (q.sz.length≤4)
variable {q:Fm}
theorem plain_top (h:plainQ q=true):q.top=1:=by
 unfold plainQ at h;simp only [Bool.and_eq_true,decide_eq_true_eq] at h;exact h.1.1.1
def clsV (q:Fm):Value := .agg #[.bool (clTh q),.bool (clCo q),.bool (clWo q),.bool (clTr q),.bool (clMo q)]
theorem Wy {v1 v2 v3 v4 v5 u1 u2 u3 u4 u5:Bool} {i j:Int} (h1:v1=u1) (h2:v2=u2) (h3:v3=u3) (h4:v4=u4) (h5:v5=u5) (h:i=j) :
 Ending.returned (.tuple #[.agg #[.bool v1,.bool v2,.bool v3,.bool v4,.bool v5],.int .i64 i]) = .returned (.tuple #[.agg #[.bool u1,.bool u2,.bool u3,.bool u4,.bool u5],.int .i64 j]):=by rw [h1,h2,h3,h4,h5,h]
set_option maxRecDepth 100000 in
theorem ZcE {lo:Nat} {w:World} {v:Value} (hq:IsFam lo w v q) :
 Calls Tryz.prog 114 #[v] w fun e w'=>e = .returned (.tuple #[if valE q=0 then clsV q else .agg #[.bool false,.bool false,.bool false,.bool false,.bool false],.int .i64 (valE q)])∧Below w.heap.size w w':=by
 have HQ:=Lib.hid hq
 obtain ⟨v2,v3,v4,v6,v7,v8,v9,rfl,hnm,_,h2,h3,h4,_,h6,h7,h8,h9⟩:=hq
 obtain ⟨a2,c2,rfl⟩:=h2.shape
 obtain ⟨a3,c3,rfl⟩:=h3.shape
 obtain ⟨a4,c4,rfl⟩:=h4.shape
 obtain ⟨a6,c6,rfl⟩:=h6.shape
 obtain ⟨a7,c7,rfl⟩:=h7.shape
 obtain ⟨a8,c8,rfl⟩:=h8.shape
 obtain ⟨a9,c9,rfl⟩:=h9.shape
 have H9:=Lib.hid h9
 clear hnm h2 h3 h4 h6 h7 h8 h9
 go_enter Tryz.func114,Tryz.ntmps114
 go_upto_region 1 with (fail)
 obtain ⟨W,hW⟩:∃ W:World,W=(w.alloc (.cells #[.string q.nm,.int .i64 q.top,.slice a2 q.sz.length c2,.slice a3 q.msgs.length c3,.slice a4 q.vals.length c4,.int .i64 q.fz,.slice a6 q.res.length c6,.slice a7 q.init.length c7,.slice a8 q.lz.length c8,.slice a9 q.rz.length c9] 27)).alloc (.cells #[.bool false,.bool false,.bool false,.bool false,.bool false] 113):=⟨_,rfl⟩
 rw [← hW]
 have WB:=Lib.hid (show Below w.heap.size w W by rw [hW];go_grown)
 have WP:=Lib.hid (show W.heap[w.heap.size]? = some (.cells #[.string q.nm,.int .i64 q.top,.slice a2 q.sz.length c2,.slice a3 q.msgs.length c3,.slice a4 q.vals.length c4,.int .i64 q.fz,.slice a6 q.res.length c6,.slice a7 q.init.length c7,.slice a8 q.lz.length c8,.slice a9 q.rz.length c9] 27 (0,0)) by rw [hW];exact (heap_old _ _ (by simp)).trans (Yp _ _ rfl))
 have WC:=Lib.hid (show W.heap[w.heap.size+1]? = some (.cells #[.bool false,.bool false,.bool false,.bool false,.bool false] 113 (0,0)) by rw [hW];exact Yp _ _ (by simp))
 clear hW
 have WPn:=Lib.hid (show ∀ n:WIn (Below W.heap.size W),n.val.heap[w.heap.size]? = some (.cells #[.string q.nm,.int .i64 q.top,.slice a2 q.sz.length c2,.slice a3 q.msgs.length c3,.slice a4 q.vals.length c4,.int .i64 q.fz,.slice a6 q.res.length c6,.slice a7 q.init.length c7,.slice a8 q.lz.length c8,.slice a9 q.rz.length c9] 27 (0,0)) from fun n=>keepB WP.out n.ok)
 have WCn:=Lib.hid (show ∀ n:WIn (Below W.heap.size W),n.val.heap[w.heap.size+1]? = some (.cells #[.bool false,.bool false,.bool false,.bool false,.bool false] 113 (0,0)) from fun n=>keepB WC.out n.ok)
 have WBn:=Lib.hid (show ∀ n:WIn (Below W.heap.size W),Below w.heap.size w n.val from fun n=>Zf WB.out n.ok)
 refine Zx ?_
 refine BigFrame.wpQuiet_want (by rfl) (fun K hK => ?_)
 refine YE Tryz.underlying27 Yl (.tmp 1) (by rfl) w.heap.size 0 [.string q.nm,.int .i64 q.top,.slice a2 q.sz.length c2,.slice a3 q.msgs.length c3,.slice a4 q.vals.length c4,.int .i64 q.fz,.slice a6 q.res.length c6,.slice a7 q.init.length c7,.slice a8 q.lz.length c8,.slice a9 q.rz.length c9] (by rfl) (by rfl) (by rintro _ ⟨n,rfl⟩;exact ZX (WPn.out n)) (hK _ ?_)
 clear hK K
 simp only [Act.put,List.setIfInBounds_toArray,List.set_cons_succ,List.set_cons_zero]
 go_big_quiet_step (((with_reducible refine (ZcA (HQ.out.below (WBn.out _))).mono ?_);rintro e w1 ⟨rfl,hb⟩;exact ⟨rfl,⟨w1,Zf (WIn.ok _) hb⟩,rfl⟩))
 go_big_quiet_step (fail)
 refine wpQuiet_nil ?_
 intro n
 have YP:=Lib.hid (WPn.out n)
 have YC:=Lib.hid (WCn.out n)
 have YB:=Lib.hid (WBn.out n)
 generalize n.val=Y at YP YC YB ⊢
 clear n WPn WCn WBn WB WP WC
 by_cases v0:valE q=0
 rotate_left
 ·have i0:(valE q != 0)=true:=by simpa using v0
  have V0:=Lib.hid v0
  clear v0
  go_upto_region 3 with (fail)
  refine wp_region_lit ?_
  iterate 2
   refine wpList_step fun K hK => ?_
   go_simp
   refine hK _ _ ?_
   clear hK K
  refine Yr (T:=113) Kj (by rfl) (.tmp 2) (.tmp 10) (by rfl) (w.heap.size+1) [.bool false,.bool false,.bool false,.bool false,.bool false] (by rfl) (by rfl) (by rfl) YC.out (by rfl) (by simp [Value.oneCell']) (fun Z hZ hbl hsz hoth => ?_)
  have ZB:=Lib.hid (show Below w.heap.size w Z from hbl _ _ (by omega) YB.out)
  have z0:=Zv hZ 0 rfl
  have z1:=Zv hZ 1 rfl
  have z2:=Zv hZ 2 rfl
  have z3:=Zv hZ 3 rfl
  have z4:=Zv hZ 4 rfl
  clear hZ hbl hsz hoth
  go_wp2_with fail
  (try simp only [Exit.inBlock,Exit.then])
  refine bodyPost_ret (v := .tuple #[.agg #[.bool false,.bool false,.bool false,.bool false,.bool false],.int .i64 (valE q)]) (by simp [results,Tryz.results114,go_sem,z0,z1,z2,z3,z4]) rfl ⟨by first | rfl | rw [if_neg V0.out],ZB.out⟩
 have V0:=Lib.hid v0
 rw [show (Value.int .i64 (valE q)) = .int .i64 0 by rw [v0]]
 clear v0
 have YPn:=Lib.hid (show ∀ n:WIn (Below Y.heap.size Y),n.val.heap[w.heap.size]? = some (.cells #[.string q.nm,.int .i64 q.top,.slice a2 q.sz.length c2,.slice a3 q.msgs.length c3,.slice a4 q.vals.length c4,.int .i64 q.fz,.slice a6 q.res.length c6,.slice a7 q.init.length c7,.slice a8 q.lz.length c8,.slice a9 q.rz.length c9] 27 (0,0)) from fun n=>keepB YP.out n.ok)
 have YCn:=Lib.hid (show ∀ n:WIn (Below Y.heap.size Y),n.val.heap[w.heap.size+1]? = some (.cells #[.bool false,.bool false,.bool false,.bool false,.bool false] 113 (0,0)) from fun n=>keepB YC.out n.ok)
 have YBn:=Lib.hid (show ∀ n:WIn (Below Y.heap.size Y),Below w.heap.size w n.val from fun n=>Zf YB.out n.ok)
 go_upto_region 4 with (fail)
 refine Zx ?_
 refine BigFrame.wpQuiet_want (by rfl) (fun K hK => ?_)
 refine YE Tryz.underlying27 Yl (.tmp 1) (by rfl) w.heap.size 0 [.string q.nm,.int .i64 q.top,.slice a2 q.sz.length c2,.slice a3 q.msgs.length c3,.slice a4 q.vals.length c4,.int .i64 q.fz,.slice a6 q.res.length c6,.slice a7 q.init.length c7,.slice a8 q.lz.length c8,.slice a9 q.rz.length c9] (by rfl) (by rfl) (by rintro _ ⟨n,rfl⟩;exact ZX (YPn.out n)) (hK _ ?_)
 clear hK K
 simp only [Act.put,List.setIfInBounds_toArray,List.set_cons_succ,List.set_cons_zero]
 go_big_quiet_step (((with_reducible refine (Zc4 (HQ.out.below (YBn.out _))).mono ?_);rintro e w1 ⟨rfl,hb⟩;exact ⟨rfl,⟨w1,Zf (WIn.ok _) hb⟩,rfl⟩))
 go_big_quiet_step (fail)
 refine wpQuiet_nil ?_
 intro n
 have XP:=Lib.hid (YPn.out n)
 have XC:=Lib.hid (YCn.out n)
 have XB:=Lib.hid (YBn.out n)
 generalize n.val=X at XP XC XB ⊢
 clear n YPn YCn YBn YB YP YC
 have XPn:=Lib.hid (show ∀ n:WIn (Below X.heap.size X),n.val.heap[w.heap.size]? = some (.cells #[.string q.nm,.int .i64 q.top,.slice a2 q.sz.length c2,.slice a3 q.msgs.length c3,.slice a4 q.vals.length c4,.int .i64 q.fz,.slice a6 q.res.length c6,.slice a7 q.init.length c7,.slice a8 q.lz.length c8,.slice a9 q.rz.length c9] 27 (0,0)) from fun n=>keepB XP.out n.ok)
 have XCn:=Lib.hid (show ∀ n:WIn (Below X.heap.size X),n.val.heap[w.heap.size+1]? = some (.cells #[.bool false,.bool false,.bool false,.bool false,.bool false] 113 (0,0)) from fun n=>keepB XC.out n.ok)
 have XBn:=Lib.hid (show ∀ n:WIn (Below X.heap.size X),Below w.heap.size w n.val from fun n=>Zf XB.out n.ok)
 go_upto_region 5 with (fail)
 have x1:∀ n:WIn (Below X.heap.size X),n.val.cell? ⟨w.heap.size,1,none⟩=some (.int .i64 q.top):=fun n=>Zv (XPn.out n) 1 rfl
 have x2:∀ n:WIn (Below X.heap.size X),n.val.cell? ⟨w.heap.size,2,none⟩=some (.slice a2 q.sz.length c2):=fun n=>Zv (XPn.out n) 2 rfl
 have x4:∀ n:WIn (Below X.heap.size X),n.val.cell? ⟨w.heap.size,4,none⟩=some (.slice a4 q.vals.length c4):=fun n=>Zv (XPn.out n) 4 rfl
 have x9:∀ n:WIn (Below X.heap.size X),n.val.cell? ⟨w.heap.size,9,none⟩=some (.slice a9 q.rz.length c9):=fun n=>Zv (XPn.out n) 9 rfl
 cases hp:plainQ q with
 | true =>
   have HP:=Lib.hid hp
   have t1:=plain_top hp
   have T1:=Lib.hid t1
   have i1:(q.top==1)=true:=by rw [t1];rfl
   have i2:(q.top==2)=false:=by rw [t1];rfl
   have i3:(q.top==3)=false:=by rw [t1];rfl
   have i4:(q.top==4)=false:=by rw [t1];rfl
   clear hp t1
   by_cases h0:q.vals.length=0
   ·have j0:((q.vals.length:Int)==0)=true:=by rw [h0];rfl
    have J0:=Lib.hid h0
    clear h0
    refine Ya 41 (by kernel_rfl) (by kernel_rfl) ?_
    simp only [List.take_succ_cons,List.take_zero]
    iterate 41 go_big_quiet_step (first | ((with_reducible refine (ZQ (H9.out.below RuEl.stays (XBn.out _))).mono ?_);rintro e w1 ⟨rfl,hb⟩;exact ⟨rfl,⟨w1,Zf (WIn.ok _) hb⟩,rfl⟩) | ((with_reducible refine (ZZ (H9.out.below RuEl.stays (XBn.out _))).mono ?_);rintro e w1 ⟨rfl,hb⟩;exact ⟨rfl,⟨w1,Zf (WIn.ok _) hb⟩,rfl⟩))
    refine wpQuiet_nil ?_
    intro m
    simp only [List.drop_succ_cons,List.drop_zero]
    have MC:=Lib.hid (XCn.out m)
    have MB:=Lib.hid (XBn.out m)
    generalize m.val=M at MC MB ⊢
    clear m x1 x2 x4 x9
    refine Yr (T:=113) Kj (by rfl) (.tmp 2) (.tmp 54) (by rfl) (w.heap.size+1) [.bool (!q.rz.any noThrB),.bool (!q.rz.any demB),.bool (false),.bool (false),.bool (decide ((q.sz.length:Int)≤4))] (by rfl) (by rfl) (by rfl) MC.out (by rfl) (by simp [Value.oneCell']) (fun Z hZ hbl hsz hoth => ?_)
    have ZB:=Lib.hid (show Below w.heap.size w Z from hbl _ _ (by omega) MB.out)
    have z0:=Zv hZ 0 rfl
    have z1:=Zv hZ 1 rfl
    have z2:=Zv hZ 2 rfl
    have z3:=Zv hZ 3 rfl
    have z4:=Zv hZ 4 rfl
    clear hZ hbl hsz hoth
    go_wp2_with fail
    (try simp only [Exit.inBlock,Exit.then])
    refine bodyPost_ret (v := .tuple #[.agg #[.bool (!q.rz.any noThrB),.bool (!q.rz.any demB),.bool (false),.bool (false),.bool (decide ((q.sz.length:Int)≤4))],.int .i64 0]) (by simp [results,Tryz.results114,go_sem,z0,z1,z2,z3,z4]) rfl ⟨Wy (by unfold clTh;rw [T1.out,J0.out];simp) (by unfold clCo;rw [HP.out];simp) (by unfold clWo;rw [T1.out];simp) (by unfold clTr;rw [T1.out];simp) (by unfold clMo;rw [HP.out];simp;omega) rfl,ZB.out⟩
   have j0:((q.vals.length:Int)==0)=false:=by simpa using h0
   have J0:=Lib.hid h0
   clear h0
   refine Ya 41 (by kernel_rfl) (by kernel_rfl) ?_
   simp only [List.take_succ_cons,List.take_zero]
   iterate 41 go_big_quiet_step (first | ((with_reducible refine (ZQ (H9.out.below RuEl.stays (XBn.out _))).mono ?_);rintro e w1 ⟨rfl,hb⟩;exact ⟨rfl,⟨w1,Zf (WIn.ok _) hb⟩,rfl⟩) | ((with_reducible refine (ZZ (H9.out.below RuEl.stays (XBn.out _))).mono ?_);rintro e w1 ⟨rfl,hb⟩;exact ⟨rfl,⟨w1,Zf (WIn.ok _) hb⟩,rfl⟩))
   refine wpQuiet_nil ?_
   intro m
   simp only [List.drop_succ_cons,List.drop_zero]
   have MC:=Lib.hid (XCn.out m)
   have MB:=Lib.hid (XBn.out m)
   generalize m.val=M at MC MB ⊢
   clear m x1 x2 x4 x9
   refine Yr (T:=113) Kj (by rfl) (.tmp 2) (.tmp 54) (by rfl) (w.heap.size+1) [.bool (false),.bool (!q.rz.any demB),.bool (false),.bool (false),.bool (decide ((q.sz.length:Int)≤4))] (by rfl) (by rfl) (by rfl) MC.out (by rfl) (by simp [Value.oneCell']) (fun Z hZ hbl hsz hoth => ?_)
   have ZB:=Lib.hid (show Below w.heap.size w Z from hbl _ _ (by omega) MB.out)
   have z0:=Zv hZ 0 rfl
   have z1:=Zv hZ 1 rfl
   have z2:=Zv hZ 2 rfl
   have z3:=Zv hZ 3 rfl
   have z4:=Zv hZ 4 rfl
   clear hZ hbl hsz hoth
   go_wp2_with fail
   (try simp only [Exit.inBlock,Exit.then])
   refine bodyPost_ret (v := .tuple #[.agg #[.bool (false),.bool (!q.rz.any demB),.bool (false),.bool (false),.bool (decide ((q.sz.length:Int)≤4))],.int .i64 0]) (by simp [results,Tryz.results114,go_sem,z0,z1,z2,z3,z4]) rfl ⟨Wy (by unfold clTh;simp [J0.out]) (by unfold clCo;rw [HP.out];simp) (by unfold clWo;rw [T1.out];simp) (by unfold clTr;rw [T1.out];simp) (by unfold clMo;rw [HP.out];simp;omega) rfl,ZB.out⟩
 | false =>
   have HP:=Lib.hid hp
   clear hp
   by_cases t1:q.top=1
   ·have T1:=Lib.hid t1
    have i1:(q.top==1)=true:=by rw [t1];rfl
    have i2:(q.top==2)=false:=by rw [t1];rfl
    have i3:(q.top==3)=false:=by rw [t1];rfl
    have i4:(q.top==4)=false:=by rw [t1];rfl
    clear t1
    by_cases h0:q.vals.length=0
    ·have j0:((q.vals.length:Int)==0)=true:=by rw [h0];rfl
     have J0:=Lib.hid h0
     clear h0
     refine Ya 41 (by kernel_rfl) (by kernel_rfl) ?_
     simp only [List.take_succ_cons,List.take_zero]
     iterate 41 go_big_quiet_step (first | ((with_reducible refine (ZQ (H9.out.below RuEl.stays (XBn.out _))).mono ?_);rintro e w1 ⟨rfl,hb⟩;exact ⟨rfl,⟨w1,Zf (WIn.ok _) hb⟩,rfl⟩) | ((with_reducible refine (ZZ (H9.out.below RuEl.stays (XBn.out _))).mono ?_);rintro e w1 ⟨rfl,hb⟩;exact ⟨rfl,⟨w1,Zf (WIn.ok _) hb⟩,rfl⟩))
     refine wpQuiet_nil ?_
     intro m
     simp only [List.drop_succ_cons,List.drop_zero]
     have MC:=Lib.hid (XCn.out m)
     have MB:=Lib.hid (XBn.out m)
     generalize m.val=M at MC MB ⊢
     clear m x1 x2 x4 x9
     refine Yr (T:=113) Kj (by rfl) (.tmp 2) (.tmp 54) (by rfl) (w.heap.size+1) [.bool (!q.rz.any noThrB),.bool (false),.bool (false),.bool (false),.bool (false)] (by rfl) (by rfl) (by rfl) MC.out (by rfl) (by simp [Value.oneCell']) (fun Z hZ hbl hsz hoth => ?_)
     have ZB:=Lib.hid (show Below w.heap.size w Z from hbl _ _ (by omega) MB.out)
     have z0:=Zv hZ 0 rfl
     have z1:=Zv hZ 1 rfl
     have z2:=Zv hZ 2 rfl
     have z3:=Zv hZ 3 rfl
     have z4:=Zv hZ 4 rfl
     clear hZ hbl hsz hoth
     go_wp2_with fail
     (try simp only [Exit.inBlock,Exit.then])
     refine bodyPost_ret (v := .tuple #[.agg #[.bool (!q.rz.any noThrB),.bool (false),.bool (false),.bool (false),.bool (false)],.int .i64 0]) (by simp [results,Tryz.results114,go_sem,z0,z1,z2,z3,z4]) rfl ⟨Wy (by unfold clTh;rw [T1.out,J0.out];simp) (by unfold clCo;rw [HP.out];simp) (by unfold clWo;rw [T1.out];simp) (by unfold clTr;rw [T1.out];simp) (by unfold clMo;rw [HP.out];simp) rfl,ZB.out⟩
    have j0:((q.vals.length:Int)==0)=false:=by simpa using h0
    have J0:=Lib.hid h0
    clear h0
    refine Ya 41 (by kernel_rfl) (by kernel_rfl) ?_
    simp only [List.take_succ_cons,List.take_zero]
    iterate 41 go_big_quiet_step (first | ((with_reducible refine (ZQ (H9.out.below RuEl.stays (XBn.out _))).mono ?_);rintro e w1 ⟨rfl,hb⟩;exact ⟨rfl,⟨w1,Zf (WIn.ok _) hb⟩,rfl⟩) | ((with_reducible refine (ZZ (H9.out.below RuEl.stays (XBn.out _))).mono ?_);rintro e w1 ⟨rfl,hb⟩;exact ⟨rfl,⟨w1,Zf (WIn.ok _) hb⟩,rfl⟩))
    refine wpQuiet_nil ?_
    intro m
    simp only [List.drop_succ_cons,List.drop_zero]
    have MC:=Lib.hid (XCn.out m)
    have MB:=Lib.hid (XBn.out m)
    generalize m.val=M at MC MB ⊢
    clear m x1 x2 x4 x9
    refine Yr (T:=113) Kj (by rfl) (.tmp 2) (.tmp 54) (by rfl) (w.heap.size+1) [.bool (false),.bool (false),.bool (false),.bool (false),.bool (false)] (by rfl) (by rfl) (by rfl) MC.out (by rfl) (by simp [Value.oneCell']) (fun Z hZ hbl hsz hoth => ?_)
    have ZB:=Lib.hid (show Below w.heap.size w Z from hbl _ _ (by omega) MB.out)
    have z0:=Zv hZ 0 rfl
    have z1:=Zv hZ 1 rfl
    have z2:=Zv hZ 2 rfl
    have z3:=Zv hZ 3 rfl
    have z4:=Zv hZ 4 rfl
    clear hZ hbl hsz hoth
    go_wp2_with fail
    (try simp only [Exit.inBlock,Exit.then])
    refine bodyPost_ret (v := .tuple #[.agg #[.bool (false),.bool (false),.bool (false),.bool (false),.bool (false)],.int .i64 0]) (by simp [results,Tryz.results114,go_sem,z0,z1,z2,z3,z4]) rfl ⟨Wy (by unfold clTh;simp [J0.out]) (by unfold clCo;rw [HP.out];simp) (by unfold clWo;rw [T1.out];simp) (by unfold clTr;rw [T1.out];simp) (by unfold clMo;rw [HP.out];simp) rfl,ZB.out⟩
   have T1:=Lib.hid t1
   have i1:(q.top==1)=false:=by simpa using t1
   clear t1
   by_cases t2:q.top=2
   ·have T2:=Lib.hid t2
    have i2:(q.top==2)=true:=by rw [t2];rfl
    have i4:(q.top==4)=false:=by rw [t2];rfl
    clear t2
    refine Ya 41 (by kernel_rfl) (by kernel_rfl) ?_
    simp only [List.take_succ_cons,List.take_zero]
    iterate 41 go_big_quiet_step (first | ((with_reducible refine (ZQ (H9.out.below RuEl.stays (XBn.out _))).mono ?_);rintro e w1 ⟨rfl,hb⟩;exact ⟨rfl,⟨w1,Zf (WIn.ok _) hb⟩,rfl⟩) | ((with_reducible refine (ZZ (H9.out.below RuEl.stays (XBn.out _))).mono ?_);rintro e w1 ⟨rfl,hb⟩;exact ⟨rfl,⟨w1,Zf (WIn.ok _) hb⟩,rfl⟩))
    refine wpQuiet_nil ?_
    intro m
    simp only [List.drop_succ_cons,List.drop_zero]
    have MC:=Lib.hid (XCn.out m)
    have MB:=Lib.hid (XBn.out m)
    generalize m.val=M at MC MB ⊢
    clear m x1 x2 x4 x9
    refine Yr (T:=113) Kj (by rfl) (.tmp 2) (.tmp 54) (by rfl) (w.heap.size+1) [.bool (false),.bool (false),.bool (true),.bool (false),.bool (false)] (by rfl) (by rfl) (by rfl) MC.out (by rfl) (by simp [Value.oneCell']) (fun Z hZ hbl hsz hoth => ?_)
    have ZB:=Lib.hid (show Below w.heap.size w Z from hbl _ _ (by omega) MB.out)
    have z0:=Zv hZ 0 rfl
    have z1:=Zv hZ 1 rfl
    have z2:=Zv hZ 2 rfl
    have z3:=Zv hZ 3 rfl
    have z4:=Zv hZ 4 rfl
    clear hZ hbl hsz hoth
    go_wp2_with fail
    (try simp only [Exit.inBlock,Exit.then])
    refine bodyPost_ret (v := .tuple #[.agg #[.bool (false),.bool (false),.bool (true),.bool (false),.bool (false)],.int .i64 0]) (by simp [results,Tryz.results114,go_sem,z0,z1,z2,z3,z4]) rfl ⟨Wy (by unfold clTh;simp [T1.out]) (by unfold clCo;rw [HP.out];simp) (by unfold clWo;rw [T2.out];simp) (by unfold clTr;rw [T2.out];simp) (by unfold clMo;rw [HP.out];simp) rfl,ZB.out⟩
   have T2:=Lib.hid t2
   have i2:(q.top==2)=false:=by simpa using t2
   clear t2
   refine Ya 41 (by kernel_rfl) (by kernel_rfl) ?_
   simp only [List.take_succ_cons,List.take_zero]
   iterate 41 go_big_quiet_step (first | ((with_reducible refine (ZQ (H9.out.below RuEl.stays (XBn.out _))).mono ?_);rintro e w1 ⟨rfl,hb⟩;exact ⟨rfl,⟨w1,Zf (WIn.ok _) hb⟩,rfl⟩) | ((with_reducible refine (ZZ (H9.out.below RuEl.stays (XBn.out _))).mono ?_);rintro e w1 ⟨rfl,hb⟩;exact ⟨rfl,⟨w1,Zf (WIn.ok _) hb⟩,rfl⟩))
   refine wpQuiet_nil ?_
   intro m
   simp only [List.drop_succ_cons,List.drop_zero]
   have MC:=Lib.hid (XCn.out m)
   have MB:=Lib.hid (XBn.out m)
   generalize m.val=M at MC MB ⊢
   clear m x1 x2 x4 x9
   refine Yr (T:=113) Kj (by rfl) (.tmp 2) (.tmp 54) (by rfl) (w.heap.size+1) [.bool (false),.bool (false),.bool (q.top==3),.bool (q.top==4),.bool (false)] (by rfl) (by rfl) (by rfl) MC.out (by rfl) (by simp [Value.oneCell']) (fun Z hZ hbl hsz hoth => ?_)
   have ZB:=Lib.hid (show Below w.heap.size w Z from hbl _ _ (by omega) MB.out)
   have z0:=Zv hZ 0 rfl
   have z1:=Zv hZ 1 rfl
   have z2:=Zv hZ 2 rfl
   have z3:=Zv hZ 3 rfl
   have z4:=Zv hZ 4 rfl
   clear hZ hbl hsz hoth
   go_wp2_with fail
   (try simp only [Exit.inBlock,Exit.then])
   refine bodyPost_ret (v := .tuple #[.agg #[.bool (false),.bool (false),.bool (q.top==3),.bool (q.top==4),.bool (false)],.int .i64 0]) (by simp [results,Tryz.results114,go_sem,z0,z1,z2,z3,z4]) rfl ⟨Wy (by unfold clTh;simp [T1.out]) (by unfold clCo;rw [HP.out];simp) (by unfold clWo;simp [T2.out];rfl) (by unfold clTr;rfl) (by unfold clMo;rw [HP.out];simp) rfl,ZB.out⟩
end Go.Proofs.YthefecaefbeidaaGreat
