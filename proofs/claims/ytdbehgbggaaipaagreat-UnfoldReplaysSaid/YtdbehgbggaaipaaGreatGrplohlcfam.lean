import Derived.Test.YtdbehgbggaaipaaGreatGrpgjnghapi
import Derived.Test.YtdbehgbggaaipaaGreatGrpfffiblha
import Derived.Test.YtdbehgbggaaipaaGreatGrpblgjngcl
set_option linter.all false
namespace Go.Proofs.YtdbehgbggaaipaaGreat
open Go.RowKit Go.Deep
set_option maxHeartbeats 12800000
variable {lo lo' n:Nat}{w:World}{v v':Value}{xs ys:List Int}
theorem KP (e:xs=ys) (h:IsInts lo (w.drewN n) v xs) (h':IsInts lo' (w.drewN n) v' ys) :
 Calls Tryz.prog 88 #[v,v'] (w.drewN n) fun e w'=>e = .returned (.bool true)∧∃ m,w'=w.drewN m :=
 Calls.quiet_of ((ZbR h h').mono fun _ _ hh=>⟨by rw [hh.1,decide_eq_true e],hh.2⟩)
theorem KQ (e:xs≠ys) (h:IsInts lo (w.drewN n) v xs) (h':IsInts lo' (w.drewN n) v' ys) :
 Calls Tryz.prog 88 #[v,v'] (w.drewN n) fun e w'=>e = .returned (.bool false)∧∃ m,w'=w.drewN m :=
 Calls.quiet_of ((ZbR h h').mono fun _ _ hh=>⟨by rw [hh.1,decide_eq_false e],hh.2⟩)
theorem eqThsQ_t {xs ys:List Th} (e:xs=ys) (h:IsSl 6 ThEl lo (w.drewN n) v xs) (h':IsSl 6 ThEl lo' (w.drewN n) v' ys) :
 Calls Tryz.prog 127 #[v,v'] (w.drewN n) fun e w'=>e = .returned (.bool true)∧∃ m,w'=w.drewN m :=
 Calls.quiet_of ((Zcp h h').mono fun _ _ hh=>⟨by rw [hh.1,decide_eq_true e],hh.2⟩)
theorem eqThsQ_f {xs ys:List Th} (e:xs≠ys) (h:IsSl 6 ThEl lo (w.drewN n) v xs) (h':IsSl 6 ThEl lo' (w.drewN n) v' ys) :
 Calls Tryz.prog 127 #[v,v'] (w.drewN n) fun e w'=>e = .returned (.bool false)∧∃ m,w'=w.drewN m :=
 Calls.quiet_of ((Zcp h h').mono fun _ _ hh=>⟨by rw [hh.1,decide_eq_false e],hh.2⟩)
theorem Yf {W w:World} (h:Below w.heap.size w W) {e:Ending} {b c:Bool} (hb:b=c) (he:e = .returned (.bool c)) (n:Nat):e = .returned (.bool b)∧Below w.heap.size w (W.drewN n):=⟨by rw [he,hb],below_drewN h n⟩
variable {r s:Ru}
theorem YU (h:¬ (r.kind=s.kind∧r.frm=s.frm∧r.to=s.to∧r.pf=s.pf∧r.pt=s.pt∧r.resp=s.resp∧r.gz=s.gz∧r.ex=s.ex∧r.fa=s.fa∧r.rd=s.rd∧r.wr=s.wr∧r.send=s.send∧r.pos=s.pos∧r.left=s.left∧r.right=s.right∧r.pz=s.pz∧r.dir=s.dir)):samP r s=false:=by
 rw [Bool.eq_false_iff];intro hh;exact h ((ZcP r s).1 hh)
set_option maxRecDepth 100000 in
theorem ZcO {cs cs':List Value} (h:RuEl lo w cs r) (h':RuEl lo' w cs' s) :
 Calls Tryz.prog 118 #[.agg cs.toArray,.agg cs'.toArray] w fun e w'=>e = .returned (.bool (samP r s))∧Below w.heap.size w w':=by
 obtain ⟨v6,v7,v8,v9,v12,v14,v15,v16,rfl,_,_,_,_,_,_,h6,h7,h8,h9,_,_,h12,_,h14,h15,h16,_⟩:=h
 obtain ⟨u6,u7,u8,u9,u12,u14,u15,u16,rfl,_,_,_,_,_,_,k6,k7,k8,k9,_,_,k12,_,k14,k15,k16,_⟩:=h'
 obtain ⟨nm,kind,frm,tw,pf,pt,resp,gz,ex,fa,rd,wr,send,pos,left,right,pz,dir⟩:=r
 obtain ⟨nm',kind',frm',tw',pf',pt',resp',guards',ex',fa',rd',wr',send',pos',left',right',parent',dir'⟩:=s
 dsimp only at *
 obtain ⟨a6,c6,rfl⟩:=h6.shape
 obtain ⟨b6,d6,rfl⟩:=k6.shape
 obtain ⟨a7,c7,rfl⟩:=h7.shape
 obtain ⟨b7,d7,rfl⟩:=k7.shape
 obtain ⟨a8,c8,rfl⟩:=h8.shape
 obtain ⟨b8,d8,rfl⟩:=k8.shape
 obtain ⟨a9,c9,rfl⟩:=h9.shape
 obtain ⟨b9,d9,rfl⟩:=k9.shape
 obtain ⟨a12,c12,rfl⟩:=h12.shape
 obtain ⟨b12,d12,rfl⟩:=k12.shape
 obtain ⟨a14,c14,rfl⟩:=h14.shape
 obtain ⟨b14,d14,rfl⟩:=k14.shape
 obtain ⟨a15,c15,rfl⟩:=h15.shape
 obtain ⟨b15,d15,rfl⟩:=k15.shape
 obtain ⟨a16,c16,rfl⟩:=h16.shape
 obtain ⟨b16,d16,rfl⟩:=k16.shape
 have H6:=Lib.hid h6
 have K6:=Lib.hid k6
 have H7:=Lib.hid h7
 have K7:=Lib.hid k7
 have H8:=Lib.hid h8
 have K8:=Lib.hid k8
 have H9:=Lib.hid h9
 have K9:=Lib.hid k9
 have H12:=Lib.hid h12
 have K12:=Lib.hid k12
 have H14:=Lib.hid h14
 have K14:=Lib.hid k14
 have H15:=Lib.hid h15
 have K15:=Lib.hid k15
 have H16:=Lib.hid h16
 have K16:=Lib.hid k16
 clear h6 k6 h7 k7 h8 k8 h9 k9 h12 k12 h14 k14 h15 k15 h16 k16
 go_enter Tryz.func118,Tryz.ntmps118
 go_upto_region 1 with (fail)
 obtain ⟨W,hW⟩:∃ W,W=(w.alloc (.cells #[.string nm,.int .i64 kind,.int .i64 frm,.int .i64 tw,.int .i64 pf,.int .i64 pt,.slice a6 resp.length c6,.slice a7 gz.length c7,.slice a8 ex.length c8,.slice a9 fa.length c9,.int .i64 rd,.int .i64 wr,.slice a12 send.length c12,.int .i64 pos,.slice a14 left.length c14,.slice a15 right.length c15,.slice a16 pz.length c16,.int .i64 dir] 57)).alloc (.cells #[.string nm',.int .i64 kind',.int .i64 frm',.int .i64 tw',.int .i64 pf',.int .i64 pt',.slice b6 resp'.length d6,.slice b7 guards'.length d7,.slice b8 ex'.length d8,.slice b9 fa'.length d9,.int .i64 rd',.int .i64 wr',.slice b12 send'.length d12,.int .i64 pos',.slice b14 left'.length d14,.slice b15 right'.length d15,.slice b16 parent'.length d16,.int .i64 dir'] 57):=⟨_,rfl⟩
 rw [← hW]
 have HB:=Lib.hid (show Below w.heap.size w W by rw [hW];show Below _ _ _;go_grown)
 have x1:W.cell? ⟨w.heap.size,1,none⟩=some (.int .i64 kind):=by rw [hW];exact keep1 ((Zk w _ _ 1 rfl).trans rfl) (Zd _ _)
 have y1:W.cell? ⟨w.heap.size+1,1,none⟩=some (.int .i64 kind'):=by rw [hW];exact (Zk _ _ _ 1 (by simp)).trans rfl
 have x2:W.cell? ⟨w.heap.size,2,none⟩=some (.int .i64 frm):=by rw [hW];exact keep1 ((Zk w _ _ 2 rfl).trans rfl) (Zd _ _)
 have y2:W.cell? ⟨w.heap.size+1,2,none⟩=some (.int .i64 frm'):=by rw [hW];exact (Zk _ _ _ 2 (by simp)).trans rfl
 have x3:W.cell? ⟨w.heap.size,3,none⟩=some (.int .i64 tw):=by rw [hW];exact keep1 ((Zk w _ _ 3 rfl).trans rfl) (Zd _ _)
 have y3:W.cell? ⟨w.heap.size+1,3,none⟩=some (.int .i64 tw'):=by rw [hW];exact (Zk _ _ _ 3 (by simp)).trans rfl
 have x4:W.cell? ⟨w.heap.size,4,none⟩=some (.int .i64 pf):=by rw [hW];exact keep1 ((Zk w _ _ 4 rfl).trans rfl) (Zd _ _)
 have y4:W.cell? ⟨w.heap.size+1,4,none⟩=some (.int .i64 pf'):=by rw [hW];exact (Zk _ _ _ 4 (by simp)).trans rfl
 have x5:W.cell? ⟨w.heap.size,5,none⟩=some (.int .i64 pt):=by rw [hW];exact keep1 ((Zk w _ _ 5 rfl).trans rfl) (Zd _ _)
 have y5:W.cell? ⟨w.heap.size+1,5,none⟩=some (.int .i64 pt'):=by rw [hW];exact (Zk _ _ _ 5 (by simp)).trans rfl
 have x6:W.cell? ⟨w.heap.size,6,none⟩=some (.slice a6 resp.length c6):=by rw [hW];exact keep1 ((Zk w _ _ 6 rfl).trans rfl) (Zd _ _)
 have y6:W.cell? ⟨w.heap.size+1,6,none⟩=some (.slice b6 resp'.length d6):=by rw [hW];exact (Zk _ _ _ 6 (by simp)).trans rfl
 have x7:W.cell? ⟨w.heap.size,7,none⟩=some (.slice a7 gz.length c7):=by rw [hW];exact keep1 ((Zk w _ _ 7 rfl).trans rfl) (Zd _ _)
 have y7:W.cell? ⟨w.heap.size+1,7,none⟩=some (.slice b7 guards'.length d7):=by rw [hW];exact (Zk _ _ _ 7 (by simp)).trans rfl
 have x8:W.cell? ⟨w.heap.size,8,none⟩=some (.slice a8 ex.length c8):=by rw [hW];exact keep1 ((Zk w _ _ 8 rfl).trans rfl) (Zd _ _)
 have y8:W.cell? ⟨w.heap.size+1,8,none⟩=some (.slice b8 ex'.length d8):=by rw [hW];exact (Zk _ _ _ 8 (by simp)).trans rfl
 have x9:W.cell? ⟨w.heap.size,9,none⟩=some (.slice a9 fa.length c9):=by rw [hW];exact keep1 ((Zk w _ _ 9 rfl).trans rfl) (Zd _ _)
 have y9:W.cell? ⟨w.heap.size+1,9,none⟩=some (.slice b9 fa'.length d9):=by rw [hW];exact (Zk _ _ _ 9 (by simp)).trans rfl
 have x10:W.cell? ⟨w.heap.size,10,none⟩=some (.int .i64 rd):=by rw [hW];exact keep1 ((Zk w _ _ 10 rfl).trans rfl) (Zd _ _)
 have y10:W.cell? ⟨w.heap.size+1,10,none⟩=some (.int .i64 rd'):=by rw [hW];exact (Zk _ _ _ 10 (by simp)).trans rfl
 have x11:W.cell? ⟨w.heap.size,11,none⟩=some (.int .i64 wr):=by rw [hW];exact keep1 ((Zk w _ _ 11 rfl).trans rfl) (Zd _ _)
 have y11:W.cell? ⟨w.heap.size+1,11,none⟩=some (.int .i64 wr'):=by rw [hW];exact (Zk _ _ _ 11 (by simp)).trans rfl
 have x12:W.cell? ⟨w.heap.size,12,none⟩=some (.slice a12 send.length c12):=by rw [hW];exact keep1 ((Zk w _ _ 12 rfl).trans rfl) (Zd _ _)
 have y12:W.cell? ⟨w.heap.size+1,12,none⟩=some (.slice b12 send'.length d12):=by rw [hW];exact (Zk _ _ _ 12 (by simp)).trans rfl
 have x13:W.cell? ⟨w.heap.size,13,none⟩=some (.int .i64 pos):=by rw [hW];exact keep1 ((Zk w _ _ 13 rfl).trans rfl) (Zd _ _)
 have y13:W.cell? ⟨w.heap.size+1,13,none⟩=some (.int .i64 pos'):=by rw [hW];exact (Zk _ _ _ 13 (by simp)).trans rfl
 have x14:W.cell? ⟨w.heap.size,14,none⟩=some (.slice a14 left.length c14):=by rw [hW];exact keep1 ((Zk w _ _ 14 rfl).trans rfl) (Zd _ _)
 have y14:W.cell? ⟨w.heap.size+1,14,none⟩=some (.slice b14 left'.length d14):=by rw [hW];exact (Zk _ _ _ 14 (by simp)).trans rfl
 have x15:W.cell? ⟨w.heap.size,15,none⟩=some (.slice a15 right.length c15):=by rw [hW];exact keep1 ((Zk w _ _ 15 rfl).trans rfl) (Zd _ _)
 have y15:W.cell? ⟨w.heap.size+1,15,none⟩=some (.slice b15 right'.length d15):=by rw [hW];exact (Zk _ _ _ 15 (by simp)).trans rfl
 have x16:W.cell? ⟨w.heap.size,16,none⟩=some (.slice a16 pz.length c16):=by rw [hW];exact keep1 ((Zk w _ _ 16 rfl).trans rfl) (Zd _ _)
 have y16:W.cell? ⟨w.heap.size+1,16,none⟩=some (.slice b16 parent'.length d16):=by rw [hW];exact (Zk _ _ _ 16 (by simp)).trans rfl
 have x17:W.cell? ⟨w.heap.size,17,none⟩=some (.int .i64 dir):=by rw [hW];exact keep1 ((Zk w _ _ 17 rfl).trans rfl) (Zd _ _)
 have y17:W.cell? ⟨w.heap.size+1,17,none⟩=some (.int .i64 dir'):=by rw [hW];exact (Zk _ _ _ 17 (by simp)).trans rfl
 clear hW
 refine Zdk ?_
 simp only [List.append_eq,List.cons_append,List.nil_append]
 iterate 4 go_big_quiet_step (fail)
 by_cases e0:kind=kind'
 ·have t0:(kind==kind')=true:=by rw [e0];exact beq_self_eq_true _
  replace e0:=Lib.hid e0
  go_big_quiet_step (fail)
  iterate 1 go_big_quiet_step (fail)
  iterate 4 go_big_quiet_step (fail)
  by_cases e1:frm=frm'
  ·have t1:(frm==frm')=true:=by rw [e1];exact beq_self_eq_true _
   replace e1:=Lib.hid e1
   go_big_quiet_step (fail)
   iterate 2 go_big_quiet_step (fail)
   iterate 4 go_big_quiet_step (fail)
   by_cases e2:tw=tw'
   ·have t2:(tw==tw')=true:=by rw [e2];exact beq_self_eq_true _
    replace e2:=Lib.hid e2
    go_big_quiet_step (fail)
    iterate 2 go_big_quiet_step (fail)
    iterate 4 go_big_quiet_step (fail)
    by_cases e3:pf=pf'
    ·have t3:(pf==pf')=true:=by rw [e3];exact beq_self_eq_true _
     replace e3:=Lib.hid e3
     go_big_quiet_step (fail)
     iterate 2 go_big_quiet_step (fail)
     iterate 4 go_big_quiet_step (fail)
     by_cases e4:pt=pt'
     ·have t4:(pt==pt')=true:=by rw [e4];exact beq_self_eq_true _
      replace e4:=Lib.hid e4
      go_big_quiet_step (fail)
      iterate 2 go_big_quiet_step (fail)
      iterate 4 go_big_quiet_step (fail)
      by_cases e5:resp=resp'
      ·replace e5:=Lib.hid e5
       go_big_quiet_step (exact KP e5.out (H6.out.below (below_drewN HB.out _)) (K6.out.below (below_drewN HB.out _)))
       iterate 2 go_big_quiet_step (fail)
       iterate 4 go_big_quiet_step (fail)
       by_cases e6:gz=guards'
       ·replace e6:=Lib.hid e6
        go_big_quiet_step (exact eqThsQ_t e6.out (H7.out.below ThEl.stays (below_drewN HB.out _)) (K7.out.below ThEl.stays (below_drewN HB.out _)))
        iterate 2 go_big_quiet_step (fail)
        iterate 4 go_big_quiet_step (fail)
        by_cases e7:ex=ex'
        ·replace e7:=Lib.hid e7
         go_big_quiet_step (exact KP e7.out (H8.out.below (below_drewN HB.out _)) (K8.out.below (below_drewN HB.out _)))
         iterate 2 go_big_quiet_step (fail)
         iterate 4 go_big_quiet_step (fail)
         by_cases e8:fa=fa'
         ·replace e8:=Lib.hid e8
          go_big_quiet_step (exact KP e8.out (H9.out.below (below_drewN HB.out _)) (K9.out.below (below_drewN HB.out _)))
          iterate 2 go_big_quiet_step (fail)
          iterate 4 go_big_quiet_step (fail)
          by_cases e9:rd=rd'
          ·have t9:(rd==rd')=true:=by rw [e9];exact beq_self_eq_true _
           replace e9:=Lib.hid e9
           go_big_quiet_step (fail)
           iterate 2 go_big_quiet_step (fail)
           iterate 4 go_big_quiet_step (fail)
           by_cases e10:wr=wr'
           ·have t10:(wr==wr')=true:=by rw [e10];exact beq_self_eq_true _
            replace e10:=Lib.hid e10
            go_big_quiet_step (fail)
            iterate 2 go_big_quiet_step (fail)
            iterate 4 go_big_quiet_step (fail)
            by_cases e11:send=send'
            ·replace e11:=Lib.hid e11
             go_big_quiet_step (exact KP e11.out (H12.out.below (below_drewN HB.out _)) (K12.out.below (below_drewN HB.out _)))
             iterate 2 go_big_quiet_step (fail)
             iterate 4 go_big_quiet_step (fail)
             by_cases e12:pos=pos'
             ·have t12:(pos==pos')=true:=by rw [e12];exact beq_self_eq_true _
              replace e12:=Lib.hid e12
              go_big_quiet_step (fail)
              iterate 2 go_big_quiet_step (fail)
              iterate 4 go_big_quiet_step (fail)
              by_cases e13:left=left'
              ·replace e13:=Lib.hid e13
               go_big_quiet_step (exact KP e13.out (H14.out.below (below_drewN HB.out _)) (K14.out.below (below_drewN HB.out _)))
               iterate 2 go_big_quiet_step (fail)
               iterate 4 go_big_quiet_step (fail)
               by_cases e14:right=right'
               ·replace e14:=Lib.hid e14
                go_big_quiet_step (exact KP e14.out (H15.out.below (below_drewN HB.out _)) (K15.out.below (below_drewN HB.out _)))
                iterate 2 go_big_quiet_step (fail)
                iterate 4 go_big_quiet_step (fail)
                by_cases e15:pz=parent'
                ·replace e15:=Lib.hid e15
                 go_big_quiet_step (exact KP e15.out (H16.out.below (below_drewN HB.out _)) (K16.out.below (below_drewN HB.out _)))
                 iterate 2 go_big_quiet_step (fail)
                 iterate 4 go_big_quiet_step (fail)
                 by_cases e16:dir=dir'
                 ·have t16:(dir==dir')=true:=by rw [e16];exact beq_self_eq_true _
                  replace e16:=Lib.hid e16
                  go_big_quiet_step (fail)
                  have E:=Lib.hid ((ZcP ⟨nm,kind,frm,tw,pf,pt,resp,gz,ex,fa,rd,wr,send,pos,left,right,pz,dir⟩ ⟨nm',kind',frm',tw',pf',pt',resp',guards',ex',fa',rd',wr',send',pos',left',right',parent',dir'⟩).2 ⟨e0.out,e1.out,e2.out,e3.out,e4.out,e5.out,e6.out,e7.out,e8.out,e9.out,e10.out,e11.out,e12.out,e13.out,e14.out,e15.out,e16.out⟩)
                  repeat (go_big_quiet_step (fail))
                  refine wpQuiet_nil ?_
                  intro _ hw'
                  obtain ⟨nq,rfl⟩:=hw'
                  go_wp2_with fail
                  go_ret
                  exact Yf HB.out E.out rfl nq
                 have E:=Lib.hid (YU (r:=⟨nm,kind,frm,tw,pf,pt,resp,gz,ex,fa,rd,wr,send,pos,left,right,pz,dir⟩) (s:=⟨nm',kind',frm',tw',pf',pt',resp',guards',ex',fa',rd',wr',send',pos',left',right',parent',dir'⟩) (fun h=>e16 h.2.2.2.2.2.2.2.2.2.2.2.2.2.2.2.2))
                 have t16:(dir==dir')=false:=by simpa using e16
                 replace e16:=Lib.hid e16
                 go_big_quiet_step (fail)
                 repeat (go_big_quiet_step (fail))
                 refine wpQuiet_nil ?_
                 intro _ hw'
                 obtain ⟨nq,rfl⟩:=hw'
                 go_wp2_with fail
                 go_ret
                 exact Yf HB.out E.out rfl nq
                have E:=Lib.hid (YU (r:=⟨nm,kind,frm,tw,pf,pt,resp,gz,ex,fa,rd,wr,send,pos,left,right,pz,dir⟩) (s:=⟨nm',kind',frm',tw',pf',pt',resp',guards',ex',fa',rd',wr',send',pos',left',right',parent',dir'⟩) (fun h=>e15 h.2.2.2.2.2.2.2.2.2.2.2.2.2.2.2.1))
                replace e15:=Lib.hid e15
                go_big_quiet_step (exact KQ e15.out (H16.out.below (below_drewN HB.out _)) (K16.out.below (below_drewN HB.out _)))
                repeat (go_big_quiet_step (fail))
                refine wpQuiet_nil ?_
                intro _ hw'
                obtain ⟨nq,rfl⟩:=hw'
                go_wp2_with fail
                go_ret
                exact Yf HB.out E.out rfl nq
               have E:=Lib.hid (YU (r:=⟨nm,kind,frm,tw,pf,pt,resp,gz,ex,fa,rd,wr,send,pos,left,right,pz,dir⟩) (s:=⟨nm',kind',frm',tw',pf',pt',resp',guards',ex',fa',rd',wr',send',pos',left',right',parent',dir'⟩) (fun h=>e14 h.2.2.2.2.2.2.2.2.2.2.2.2.2.2.1))
               replace e14:=Lib.hid e14
               go_big_quiet_step (exact KQ e14.out (H15.out.below (below_drewN HB.out _)) (K15.out.below (below_drewN HB.out _)))
               repeat (go_big_quiet_step (fail))
               refine wpQuiet_nil ?_
               intro _ hw'
               obtain ⟨nq,rfl⟩:=hw'
               go_wp2_with fail
               go_ret
               exact Yf HB.out E.out rfl nq
              have E:=Lib.hid (YU (r:=⟨nm,kind,frm,tw,pf,pt,resp,gz,ex,fa,rd,wr,send,pos,left,right,pz,dir⟩) (s:=⟨nm',kind',frm',tw',pf',pt',resp',guards',ex',fa',rd',wr',send',pos',left',right',parent',dir'⟩) (fun h=>e13 h.2.2.2.2.2.2.2.2.2.2.2.2.2.1))
              replace e13:=Lib.hid e13
              go_big_quiet_step (exact KQ e13.out (H14.out.below (below_drewN HB.out _)) (K14.out.below (below_drewN HB.out _)))
              repeat (go_big_quiet_step (fail))
              refine wpQuiet_nil ?_
              intro _ hw'
              obtain ⟨nq,rfl⟩:=hw'
              go_wp2_with fail
              go_ret
              exact Yf HB.out E.out rfl nq
             have E:=Lib.hid (YU (r:=⟨nm,kind,frm,tw,pf,pt,resp,gz,ex,fa,rd,wr,send,pos,left,right,pz,dir⟩) (s:=⟨nm',kind',frm',tw',pf',pt',resp',guards',ex',fa',rd',wr',send',pos',left',right',parent',dir'⟩) (fun h=>e12 h.2.2.2.2.2.2.2.2.2.2.2.2.1))
             have t12:(pos==pos')=false:=by simpa using e12
             replace e12:=Lib.hid e12
             go_big_quiet_step (fail)
             repeat (go_big_quiet_step (fail))
             refine wpQuiet_nil ?_
             intro _ hw'
             obtain ⟨nq,rfl⟩:=hw'
             go_wp2_with fail
             go_ret
             exact Yf HB.out E.out rfl nq
            have E:=Lib.hid (YU (r:=⟨nm,kind,frm,tw,pf,pt,resp,gz,ex,fa,rd,wr,send,pos,left,right,pz,dir⟩) (s:=⟨nm',kind',frm',tw',pf',pt',resp',guards',ex',fa',rd',wr',send',pos',left',right',parent',dir'⟩) (fun h=>e11 h.2.2.2.2.2.2.2.2.2.2.2.1))
            replace e11:=Lib.hid e11
            go_big_quiet_step (exact KQ e11.out (H12.out.below (below_drewN HB.out _)) (K12.out.below (below_drewN HB.out _)))
            repeat (go_big_quiet_step (fail))
            refine wpQuiet_nil ?_
            intro _ hw'
            obtain ⟨nq,rfl⟩:=hw'
            go_wp2_with fail
            go_ret
            exact Yf HB.out E.out rfl nq
           have E:=Lib.hid (YU (r:=⟨nm,kind,frm,tw,pf,pt,resp,gz,ex,fa,rd,wr,send,pos,left,right,pz,dir⟩) (s:=⟨nm',kind',frm',tw',pf',pt',resp',guards',ex',fa',rd',wr',send',pos',left',right',parent',dir'⟩) (fun h=>e10 h.2.2.2.2.2.2.2.2.2.2.1))
           have t10:(wr==wr')=false:=by simpa using e10
           replace e10:=Lib.hid e10
           go_big_quiet_step (fail)
           repeat (go_big_quiet_step (fail))
           refine wpQuiet_nil ?_
           intro _ hw'
           obtain ⟨nq,rfl⟩:=hw'
           go_wp2_with fail
           go_ret
           exact Yf HB.out E.out rfl nq
          have E:=Lib.hid (YU (r:=⟨nm,kind,frm,tw,pf,pt,resp,gz,ex,fa,rd,wr,send,pos,left,right,pz,dir⟩) (s:=⟨nm',kind',frm',tw',pf',pt',resp',guards',ex',fa',rd',wr',send',pos',left',right',parent',dir'⟩) (fun h=>e9 h.2.2.2.2.2.2.2.2.2.1))
          have t9:(rd==rd')=false:=by simpa using e9
          replace e9:=Lib.hid e9
          go_big_quiet_step (fail)
          repeat (go_big_quiet_step (fail))
          refine wpQuiet_nil ?_
          intro _ hw'
          obtain ⟨nq,rfl⟩:=hw'
          go_wp2_with fail
          go_ret
          exact Yf HB.out E.out rfl nq
         have E:=Lib.hid (YU (r:=⟨nm,kind,frm,tw,pf,pt,resp,gz,ex,fa,rd,wr,send,pos,left,right,pz,dir⟩) (s:=⟨nm',kind',frm',tw',pf',pt',resp',guards',ex',fa',rd',wr',send',pos',left',right',parent',dir'⟩) (fun h=>e8 h.2.2.2.2.2.2.2.2.1))
         replace e8:=Lib.hid e8
         go_big_quiet_step (exact KQ e8.out (H9.out.below (below_drewN HB.out _)) (K9.out.below (below_drewN HB.out _)))
         repeat (go_big_quiet_step (fail))
         refine wpQuiet_nil ?_
         intro _ hw'
         obtain ⟨nq,rfl⟩:=hw'
         go_wp2_with fail
         go_ret
         exact Yf HB.out E.out rfl nq
        have E:=Lib.hid (YU (r:=⟨nm,kind,frm,tw,pf,pt,resp,gz,ex,fa,rd,wr,send,pos,left,right,pz,dir⟩) (s:=⟨nm',kind',frm',tw',pf',pt',resp',guards',ex',fa',rd',wr',send',pos',left',right',parent',dir'⟩) (fun h=>e7 h.2.2.2.2.2.2.2.1))
        replace e7:=Lib.hid e7
        go_big_quiet_step (exact KQ e7.out (H8.out.below (below_drewN HB.out _)) (K8.out.below (below_drewN HB.out _)))
        repeat (go_big_quiet_step (fail))
        refine wpQuiet_nil ?_
        intro _ hw'
        obtain ⟨nq,rfl⟩:=hw'
        go_wp2_with fail
        go_ret
        exact Yf HB.out E.out rfl nq
       have E:=Lib.hid (YU (r:=⟨nm,kind,frm,tw,pf,pt,resp,gz,ex,fa,rd,wr,send,pos,left,right,pz,dir⟩) (s:=⟨nm',kind',frm',tw',pf',pt',resp',guards',ex',fa',rd',wr',send',pos',left',right',parent',dir'⟩) (fun h=>e6 h.2.2.2.2.2.2.1))
       replace e6:=Lib.hid e6
       go_big_quiet_step (exact eqThsQ_f e6.out (H7.out.below ThEl.stays (below_drewN HB.out _)) (K7.out.below ThEl.stays (below_drewN HB.out _)))
       repeat (go_big_quiet_step (fail))
       refine wpQuiet_nil ?_
       intro _ hw'
       obtain ⟨nq,rfl⟩:=hw'
       go_wp2_with fail
       go_ret
       exact Yf HB.out E.out rfl nq
      have E:=Lib.hid (YU (r:=⟨nm,kind,frm,tw,pf,pt,resp,gz,ex,fa,rd,wr,send,pos,left,right,pz,dir⟩) (s:=⟨nm',kind',frm',tw',pf',pt',resp',guards',ex',fa',rd',wr',send',pos',left',right',parent',dir'⟩) (fun h=>e5 h.2.2.2.2.2.1))
      replace e5:=Lib.hid e5
      go_big_quiet_step (exact KQ e5.out (H6.out.below (below_drewN HB.out _)) (K6.out.below (below_drewN HB.out _)))
      repeat (go_big_quiet_step (fail))
      refine wpQuiet_nil ?_
      intro _ hw'
      obtain ⟨nq,rfl⟩:=hw'
      go_wp2_with fail
      go_ret
      exact Yf HB.out E.out rfl nq
     have E:=Lib.hid (YU (r:=⟨nm,kind,frm,tw,pf,pt,resp,gz,ex,fa,rd,wr,send,pos,left,right,pz,dir⟩) (s:=⟨nm',kind',frm',tw',pf',pt',resp',guards',ex',fa',rd',wr',send',pos',left',right',parent',dir'⟩) (fun h=>e4 h.2.2.2.2.1))
     have t4:(pt==pt')=false:=by simpa using e4
     replace e4:=Lib.hid e4
     go_big_quiet_step (fail)
     repeat (go_big_quiet_step (fail))
     refine wpQuiet_nil ?_
     intro _ hw'
     obtain ⟨nq,rfl⟩:=hw'
     go_wp2_with fail
     go_ret
     exact Yf HB.out E.out rfl nq
    have E:=Lib.hid (YU (r:=⟨nm,kind,frm,tw,pf,pt,resp,gz,ex,fa,rd,wr,send,pos,left,right,pz,dir⟩) (s:=⟨nm',kind',frm',tw',pf',pt',resp',guards',ex',fa',rd',wr',send',pos',left',right',parent',dir'⟩) (fun h=>e3 h.2.2.2.1))
    have t3:(pf==pf')=false:=by simpa using e3
    replace e3:=Lib.hid e3
    go_big_quiet_step (fail)
    repeat (go_big_quiet_step (fail))
    refine wpQuiet_nil ?_
    intro _ hw'
    obtain ⟨nq,rfl⟩:=hw'
    go_wp2_with fail
    go_ret
    exact Yf HB.out E.out rfl nq
   have E:=Lib.hid (YU (r:=⟨nm,kind,frm,tw,pf,pt,resp,gz,ex,fa,rd,wr,send,pos,left,right,pz,dir⟩) (s:=⟨nm',kind',frm',tw',pf',pt',resp',guards',ex',fa',rd',wr',send',pos',left',right',parent',dir'⟩) (fun h=>e2 h.2.2.1))
   have t2:(tw==tw')=false:=by simpa using e2
   replace e2:=Lib.hid e2
   go_big_quiet_step (fail)
   repeat (go_big_quiet_step (fail))
   refine wpQuiet_nil ?_
   intro _ hw'
   obtain ⟨nq,rfl⟩:=hw'
   go_wp2_with fail
   go_ret
   exact Yf HB.out E.out rfl nq
  have E:=Lib.hid (YU (r:=⟨nm,kind,frm,tw,pf,pt,resp,gz,ex,fa,rd,wr,send,pos,left,right,pz,dir⟩) (s:=⟨nm',kind',frm',tw',pf',pt',resp',guards',ex',fa',rd',wr',send',pos',left',right',parent',dir'⟩) (fun h=>e1 h.2.1))
  have t1:(frm==frm')=false:=by simpa using e1
  replace e1:=Lib.hid e1
  go_big_quiet_step (fail)
  repeat (go_big_quiet_step (fail))
  refine wpQuiet_nil ?_
  intro _ hw'
  obtain ⟨nq,rfl⟩:=hw'
  go_wp2_with fail
  go_ret
  exact Yf HB.out E.out rfl nq
 have E:=Lib.hid (YU (r:=⟨nm,kind,frm,tw,pf,pt,resp,gz,ex,fa,rd,wr,send,pos,left,right,pz,dir⟩) (s:=⟨nm',kind',frm',tw',pf',pt',resp',guards',ex',fa',rd',wr',send',pos',left',right',parent',dir'⟩) (fun h=>e0 h.1))
 have t0:(kind==kind')=false:=by simpa using e0
 replace e0:=Lib.hid e0
 go_big_quiet_step (fail)
 repeat (go_big_quiet_step (fail))
 refine wpQuiet_nil ?_
 intro _ hw'
 obtain ⟨nq,rfl⟩:=hw'
 go_wp2_with fail
 go_ret
 exact Yf HB.out E.out rfl nq
end Go.Proofs.YtdbehgbggaaipaaGreat
