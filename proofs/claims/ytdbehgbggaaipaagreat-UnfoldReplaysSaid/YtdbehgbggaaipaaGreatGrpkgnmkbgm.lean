import Derived.Test.YtdbehgbggaaipaaGreatProg
import Derived.WalkSpells
import Derived.WalkLawsBesides
import Derived.LoopN
import Derived.LoopTactic
import Derived.Lib.Hide
import Derived.Laws.MakeOwn
import Derived.Deep.AppendLies
import Derived.Test.YtdbehgbggaaipaaGreatGrpblcpooha
import Derived.Test.YtdbehgbggaaipaaGreatGrpjljjncbf
import Derived.Test.YtdbehgbggaaipaaGreatGrpfffiblha
import Derived.Test.YtdbehgbggaaipaaGreatGrplohlcfam
import Derived.Test.YtdbehgbggaaipaaGreatGrpdebfmneh
import Derived.Test.YtdbehgbggaaipaaGreatGrpmknfboop
import Derived.Test.YtdbehgbggaaipaaGreatGrpeiibbifm
set_option linter.all false
namespace Go.Proofs.YtdbehgbggaaipaaGreat
open Go.RowKit Go.Deep
set_option maxRecDepth 100000
set_option maxHeartbeats 6400000
variable {J:World→Prop}
variable {r:Ru}{top:Int}
theorem bare_1 (h:r.kind=1):bare r top={ r with frm:=0,«to» := 0,gz:=[],ex:=[],fa:=[],send:=[],rd := -1,wr := -1 }:=by
 unfold bare
 dsimp only
 rw [if_pos h]
theorem bare_2 (h:r.kind=2):bare r top={ r with frm:=0,«to» := 0,pf:=0,pt:=0,rd := -1,wr := -1 }:=by
 unfold bare
 dsimp only
 rw [if_neg (by omega),if_pos h]
theorem bare_3 (h:r.kind=3):bare r top={ r with frm:=0,«to» := 0,resp:=[],rd := -1,wr := -1 }:=by
 unfold bare
 dsimp only
 rw [if_neg (by omega),if_neg (by omega),if_pos h]
theorem bare_4t (h:r.kind=4) (h4:top=4):bare r top={ r with frm:=0,«to» := 0,pos:=0,left:=[],right:=[],pz:=[] }:=by
 unfold bare
 dsimp only
 rw [if_neg (by omega),if_neg (by omega),if_neg (by omega),if_pos h,if_pos h4]
theorem bare_4n (h:r.kind=4) (h4:¬ top=4):bare r top={ r with frm:=0,«to» := 0,pos:=0,left:=[],right:=[] }:=by
 unfold bare
 dsimp only
 rw [if_neg (by omega),if_neg (by omega),if_neg (by omega),if_pos h,if_neg h4]
theorem bare_5 (h:r.kind=5):bare r top={ r with frm:=0,«to» := 0,pf:=0,pt:=0,dir:=0 }:=by
 unfold bare
 dsimp only
 rw [if_neg (by omega),if_neg (by omega),if_neg (by omega),if_neg (by omega),if_pos h]
theorem bareOk (hk:r.kind=1∨r.kind=2∨r.kind=3∨r.kind=4∨r.kind=5) (h:RuOk r):RuOk (bare r top):=by
 rcases hk with k | k | k | k | k
 ·rw [bare_1 k];exact ⟨h.nm,h.kind,Kx,Kx,h.pf,h.pt,h.resp,(fun _ h=>by cases h),(fun _ h=>by cases h),(fun _ h=>by cases h),Za3,Za3,(fun _ h=>by cases h),h.pos,h.left,h.right,h.pz,h.dir,h.lresp,(Nat.zero_le _)⟩
 ·rw [bare_2 k];exact ⟨h.nm,h.kind,Kx,Kx,Kx,Kx,h.resp,h.gz,h.ex,h.fa,Za3,Za3,h.send,h.pos,h.left,h.right,h.pz,h.dir,h.lresp,h.lguards⟩
 ·rw [bare_3 k];exact ⟨h.nm,h.kind,Kx,Kx,h.pf,h.pt,(fun _ h=>by cases h),h.gz,h.ex,h.fa,Za3,Za3,h.send,h.pos,h.left,h.right,h.pz,h.dir,(Nat.zero_le _),h.lguards⟩
 ·by_cases h4:top=4
  ·rw [bare_4t k h4];exact ⟨h.nm,h.kind,Kx,Kx,h.pf,h.pt,h.resp,h.gz,h.ex,h.fa,h.rd,h.wr,h.send,Kx,(fun _ h=>by cases h),(fun _ h=>by cases h),(fun _ h=>by cases h),h.dir,h.lresp,h.lguards⟩
  rw [bare_4n k h4];exact ⟨h.nm,h.kind,Kx,Kx,h.pf,h.pt,h.resp,h.gz,h.ex,h.fa,h.rd,h.wr,h.send,Kx,(fun _ h=>by cases h),(fun _ h=>by cases h),h.pz,h.dir,h.lresp,h.lguards⟩
 rw [bare_5 k];exact ⟨h.nm,h.kind,Kx,Kx,Kx,Kx,h.resp,h.gz,h.ex,h.fa,h.rd,h.wr,h.send,h.pos,h.left,h.right,h.pz,Kx,h.lresp,h.lguards⟩
theorem Zae {X Y:AV} (e:X=Y) (h:Plain Y):Plain X:=e ▸ h
abbrev Kh:List (Nat × AV):=[(2,bx 1),(4,bx 2)]
abbrev XOth_h2 (x0:Ru):List (Nat × ABlk):=[(1,.box 57 [sv x0.nm,iv x0.kind,iv 0,iv 0,iv x0.pf,iv x0.pt,Zb x0.resp,nz,nz,nz,iv (-1),iv (-1),nz,iv x0.pos,Zb x0.left,Zb x0.right,Zb x0.pz,iv x0.dir]),(2,.box 57 [sv (⟨#[]⟩),iv 0,iv 0,iv 0,iv 0,iv 0,nz,nz,nz,nz,iv 0,iv 0,nz,iv 0,nz,nz,nz,iv 0])]
abbrev XOth_h3 (x0:Ru):List (Nat × ABlk):=[(1,.box 57 [sv x0.nm,iv x0.kind,iv 0,iv 0,iv 0,iv 0,Zb x0.resp,slA 6 cTh x0.gz,Zb x0.ex,Zb x0.fa,iv (-1),iv (-1),Zb x0.send,iv x0.pos,Zb x0.left,Zb x0.right,Zb x0.pz,iv x0.dir]),(2,.box 57 [sv (⟨#[]⟩),iv 0,iv 0,iv 0,iv 0,iv 0,nz,nz,nz,nz,iv 0,iv 0,nz,iv 0,nz,nz,nz,iv 0])]
abbrev XOth_h4 (x0:Ru):List (Nat × ABlk):=[(1,.box 57 [sv x0.nm,iv x0.kind,iv 0,iv 0,iv x0.pf,iv x0.pt,nz,slA 6 cTh x0.gz,Zb x0.ex,Zb x0.fa,iv (-1),iv (-1),Zb x0.send,iv x0.pos,Zb x0.left,Zb x0.right,Zb x0.pz,iv x0.dir]),(2,.box 57 [sv (⟨#[]⟩),iv 0,iv 0,iv 0,iv 0,iv 0,nz,nz,nz,nz,iv 0,iv 0,nz,iv 0,nz,nz,nz,iv 0])]
abbrev Ze9 (x0:Ru):List (Nat × ABlk):=[(1,.box 57 [sv x0.nm,iv x0.kind,iv 0,iv 0,iv x0.pf,iv x0.pt,Zb x0.resp,slA 6 cTh x0.gz,Zb x0.ex,Zb x0.fa,iv x0.rd,iv x0.wr,Zb x0.send,iv 0,nz,nz,Zb x0.pz,iv x0.dir]),(2,.box 57 [sv (⟨#[]⟩),iv 0,iv 0,iv 0,iv 0,iv 0,nz,nz,nz,nz,iv 0,iv 0,nz,iv 0,nz,nz,nz,iv 0])]
abbrev XOth_h6 (x0:Ru):List (Nat × ABlk):=[(1,.box 57 [sv x0.nm,iv x0.kind,iv 0,iv 0,iv x0.pf,iv x0.pt,Zb x0.resp,slA 6 cTh x0.gz,Zb x0.ex,Zb x0.fa,iv x0.rd,iv x0.wr,Zb x0.send,iv 0,nz,nz,nz,iv x0.dir]),(2,.box 57 [sv (⟨#[]⟩),iv 0,iv 0,iv 0,iv 0,iv 0,nz,nz,nz,nz,iv 0,iv 0,nz,iv 0,nz,nz,nz,iv 0])]
abbrev XOth_h7 (x0:Ru):List (Nat × ABlk):=[(1,.box 57 [sv x0.nm,iv x0.kind,iv 0,iv 0,iv 0,iv 0,Zb x0.resp,slA 6 cTh x0.gz,Zb x0.ex,Zb x0.fa,iv x0.rd,iv x0.wr,Zb x0.send,iv x0.pos,Zb x0.left,Zb x0.right,Zb x0.pz,iv 0]),(2,.box 57 [sv (⟨#[]⟩),iv 0,iv 0,iv 0,iv 0,iv 0,nz,nz,nz,nz,iv 0,iv 0,nz,iv 0,nz,nz,nz,iv 0])]
theorem ZcA (hk:r.kind=1∨r.kind=2∨r.kind=3∨r.kind=4∨r.kind=5):CtrA Tryz.prog J 119 [.agg (cRu r),iv top] (.agg (cRu (bare r top))):=by
 refine Zau Tryz.func119 rfl (pN (Zh (Y0 r)) (pN (.v _) pZ)) (n:=42) rfl (by simp) (fun w0 => ?_)
 refine kW 42 [] [(0,.agg (cRu r)),(1,iv top)] (jB (oX 1 (.agg (cRu r)) (oZ 2 Z57 (jD (Za (oW (oY (oW (oY (kN 42 [(1,.box 57 [sv r.nm,iv r.kind,iv 0,iv 0,iv r.pf,iv r.pt,Zb r.resp,slA 6 cTh r.gz,Zb r.ex,Zb r.fa,iv r.rd,iv r.wr,Zb r.send,iv r.pos,Zb r.left,Zb r.right,Zb r.pz,iv r.dir]),(2,.box 57 [sv (⟨#[]⟩),iv 0,iv 0,iv 0,iv 0,iv 0,nz,nz,nz,nz,iv 0,iv 0,nz,iv 0,nz,nz,nz,iv 0])] [(1,iv top),(2,bx 1),(4,bx 2)] (jC (jB (oF (iv r.kind) (jA (Zo (Zl ?_))))))))))))))))
 by_cases hs1:r.kind=1
 refine Za (oe (dT hs1) (oS bT (jG (oW (oY (oW (oY (oW (oY (oW (oY (kN 42 [(1,.box 57 [sv r.nm,iv r.kind,iv 0,iv 0,iv r.pf,iv r.pt,Zb r.resp,nz,nz,nz,iv r.rd,iv r.wr,nz,iv r.pos,Zb r.left,Zb r.right,Zb r.pz,iv r.dir]),(2,.box 57 [sv (⟨#[]⟩),iv 0,iv 0,iv 0,iv 0,iv 0,nz,nz,nz,nz,iv 0,iv 0,nz,iv 0,nz,nz,nz,iv 0])] Kh (Zf (Za (oW (oY (oW (oY (kN 42 (XOth_h2 r) Kh ?_)))))))))))))))))))
 refine Zv (jC (kW 42 (XOth_h2 r) Kh ?_))
 refine Yk (WO 1 1 [0,0,0,0,0,0,0,0,2,2,0,0,2,0,0,0,0,0] rfl (ds:=[sv r.nm,iv r.kind,iv 0,iv 0,iv r.pf,iv r.pt,Zb r.resp,nz,.fr ((.sl 1 0 [])),.fr ((.sl 1 0 [])),iv (-1),iv (-1),.fr ((.sl 1 0 [])),iv r.pos,Zb r.left,Zb r.right,Zb r.pz,iv r.dir]) (by kernel_rfl) (by kernel_rfl)) ?_
 refine Yk (WO 1 6 [0,0,0,0,0,0,0,2,0,0,0,0,0,0,0,0,0,0] rfl (ds:=[sv r.nm,iv r.kind,iv 0,iv 0,iv r.pf,iv r.pt,Zb r.resp,.fr ((.sl 6 0 [])),.fr ((.sl 1 0 [])),.fr ((.sl 1 0 [])),iv (-1),iv (-1),.fr ((.sl 1 0 [])),iv r.pos,Zb r.left,Zb r.right,Zb r.pz,iv r.dir]) (by kernel_rfl) (by kernel_rfl)) ?_
 refine Za (oW (oY (kN 42 [(2,.box 57 [sv r.nm,iv r.kind,iv 0,iv 0,iv r.pf,iv r.pt,Zb r.resp,.fr ((.sl 6 0 [])),.fr ((.sl 1 0 [])),.fr ((.sl 1 0 [])),iv (-1),iv (-1),.fr ((.sl 1 0 [])),iv r.pos,Zb r.left,Zb r.right,Zb r.pz,iv r.dir])] [(4,bx 2)] (Zf (Z4 ?_)))))
 refine K5 [(2,.box 57 [sv r.nm,iv r.kind,iv 0,iv 0,iv r.pf,iv r.pt,Zb r.resp,.fr ((.sl 6 0 [])),.fr ((.sl 1 0 [])),.fr ((.sl 1 0 [])),iv (-1),iv (-1),.fr ((.sl 1 0 [])),iv r.pos,Zb r.left,Zb r.right,Zb r.pz,iv r.dir])] Tryz.results119 (.cellS rfl rfl U57 rfl (z:=18) (by kernel_rfl) rfl (by decide)) (by kernel_rfl) rfl rfl ?_ ?_
 ·exact Zae (Y := .agg (cRu { r with frm:=0,«to» := 0,gz:=[],ex:=[],fa:=[],send:=[],rd := -1,wr := -1 })) (by kernel_rfl) (Zh (Y0 _))
 ·rw [bare_1 hs1];kernel_rfl
 refine Za (oe (dF hs1) (oS bF (jI (Zl ?_))))
 by_cases hs2:r.kind=2
 refine Za (oe (dT hs2) (oS bT (jG (oW (oY (oW (oY (kN 42 [(1,.box 57 [sv r.nm,iv r.kind,iv 0,iv 0,iv 0,iv 0,Zb r.resp,slA 6 cTh r.gz,Zb r.ex,Zb r.fa,iv r.rd,iv r.wr,Zb r.send,iv r.pos,Zb r.left,Zb r.right,Zb r.pz,iv r.dir]),(2,.box 57 [sv (⟨#[]⟩),iv 0,iv 0,iv 0,iv 0,iv 0,nz,nz,nz,nz,iv 0,iv 0,nz,iv 0,nz,nz,nz,iv 0])] Kh (Zf (Za (oW (oY (oW (oY (kN 42 (XOth_h3 r) Kh (Zv (jC (kW 42 (XOth_h3 r) Kh ?_))))))))))))))))))
 refine Za (oW (oY (kN 42 [(2,.box 57 [sv r.nm,iv r.kind,iv 0,iv 0,iv 0,iv 0,Zb r.resp,slA 6 cTh r.gz,Zb r.ex,Zb r.fa,iv (-1),iv (-1),Zb r.send,iv r.pos,Zb r.left,Zb r.right,Zb r.pz,iv r.dir])] [(4,bx 2)] (Zf (Z4 ?_)))))
 refine K5 [(2,.box 57 [sv r.nm,iv r.kind,iv 0,iv 0,iv 0,iv 0,Zb r.resp,slA 6 cTh r.gz,Zb r.ex,Zb r.fa,iv (-1),iv (-1),Zb r.send,iv r.pos,Zb r.left,Zb r.right,Zb r.pz,iv r.dir])] Tryz.results119 (.cellS rfl rfl U57 rfl (z:=18) (by kernel_rfl) rfl (by decide)) (by kernel_rfl) rfl rfl ?_ ?_
 ·exact Zae (Y := .agg (cRu { r with frm:=0,«to» := 0,pf:=0,pt:=0,rd := -1,wr := -1 })) (by kernel_rfl) (Zh (Y0 _))
 ·rw [bare_2 hs2];kernel_rfl
 refine Za (oe (dF hs2) (oS bF (jI (Zl ?_))))
 by_cases hs3:r.kind=3
 refine Za (oe (dT hs3) (oS bT (jG (oW (oY (kN 42 [(1,.box 57 [sv r.nm,iv r.kind,iv 0,iv 0,iv r.pf,iv r.pt,nz,slA 6 cTh r.gz,Zb r.ex,Zb r.fa,iv r.rd,iv r.wr,Zb r.send,iv r.pos,Zb r.left,Zb r.right,Zb r.pz,iv r.dir]),(2,.box 57 [sv (⟨#[]⟩),iv 0,iv 0,iv 0,iv 0,iv 0,nz,nz,nz,nz,iv 0,iv 0,nz,iv 0,nz,nz,nz,iv 0])] Kh (Zf (Za (oW (oY (oW (oY (kN 42 (XOth_h4 r) Kh (Zv (jC (kW 42 (XOth_h4 r) Kh ?_))))))))))))))))
 refine Yk (WO 1 1 [0,0,0,0,0,0,2,0,0,0,0,0,0,0,0,0,0,0] rfl (ds:=[sv r.nm,iv r.kind,iv 0,iv 0,iv r.pf,iv r.pt,.fr ((.sl 1 0 [])),slA 6 cTh r.gz,Zb r.ex,Zb r.fa,iv (-1),iv (-1),Zb r.send,iv r.pos,Zb r.left,Zb r.right,Zb r.pz,iv r.dir]) (by kernel_rfl) (by kernel_rfl)) ?_
 refine Za (oW (oY (kN 42 [(2,.box 57 [sv r.nm,iv r.kind,iv 0,iv 0,iv r.pf,iv r.pt,.fr ((.sl 1 0 [])),slA 6 cTh r.gz,Zb r.ex,Zb r.fa,iv (-1),iv (-1),Zb r.send,iv r.pos,Zb r.left,Zb r.right,Zb r.pz,iv r.dir])] [(4,bx 2)] (Zf (Z4 ?_)))))
 refine K5 [(2,.box 57 [sv r.nm,iv r.kind,iv 0,iv 0,iv r.pf,iv r.pt,.fr ((.sl 1 0 [])),slA 6 cTh r.gz,Zb r.ex,Zb r.fa,iv (-1),iv (-1),Zb r.send,iv r.pos,Zb r.left,Zb r.right,Zb r.pz,iv r.dir])] Tryz.results119 (.cellS rfl rfl U57 rfl (z:=18) (by kernel_rfl) rfl (by decide)) (by kernel_rfl) rfl rfl ?_ ?_
 ·exact Zae (Y := .agg (cRu { r with frm:=0,«to» := 0,resp:=[],rd := -1,wr := -1 })) (by kernel_rfl) (Zh (Y0 _))
 ·rw [bare_3 hs3];kernel_rfl
 refine Za (oe (dF hs3) (oS bF (jI (Zl ?_))))
 by_cases hs4:r.kind=4
 refine Za (oe (dT hs4) (oS bT (jG (oW (oY (oW (oY (oW (oY (kN 42 (Ze9 r) [(1,iv top),(2,bx 1),(4,bx 2)] (jC ?_)))))))))))
 by_cases hs5:top=4
 refine Za (oW (oe (dT hs5) (jH (Za (oW (oY (kN 42 (XOth_h6 r) Kh (Zv (jC (kW 42 (XOth_h6 r) Kh ?_))))))))))
 refine Yk (WO 1 1 [0,0,0,0,0,0,0,0,0,0,0,0,0,0,2,2,2,0] rfl (ds:=[sv r.nm,iv r.kind,iv 0,iv 0,iv r.pf,iv r.pt,Zb r.resp,slA 6 cTh r.gz,Zb r.ex,Zb r.fa,iv r.rd,iv r.wr,Zb r.send,iv 0,.fr ((.sl 1 0 [])),.fr ((.sl 1 0 [])),.fr ((.sl 1 0 [])),iv r.dir]) (by kernel_rfl) (by kernel_rfl)) ?_
 refine Za (oW (oY (kN 42 [(2,.box 57 [sv r.nm,iv r.kind,iv 0,iv 0,iv r.pf,iv r.pt,Zb r.resp,slA 6 cTh r.gz,Zb r.ex,Zb r.fa,iv r.rd,iv r.wr,Zb r.send,iv 0,.fr ((.sl 1 0 [])),.fr ((.sl 1 0 [])),.fr ((.sl 1 0 [])),iv r.dir])] [(4,bx 2)] (Zf (Z4 ?_)))))
 refine K5 [(2,.box 57 [sv r.nm,iv r.kind,iv 0,iv 0,iv r.pf,iv r.pt,Zb r.resp,slA 6 cTh r.gz,Zb r.ex,Zb r.fa,iv r.rd,iv r.wr,Zb r.send,iv 0,.fr ((.sl 1 0 [])),.fr ((.sl 1 0 [])),.fr ((.sl 1 0 [])),iv r.dir])] Tryz.results119 (.cellS rfl rfl U57 rfl (z:=18) (by kernel_rfl) rfl (by decide)) (by kernel_rfl) rfl rfl ?_ ?_
 ·exact Zae (Y := .agg (cRu { r with frm:=0,«to» := 0,pos:=0,left:=[],right:=[],pz:=[] })) (by kernel_rfl) (Zh (Y0 _))
 ·rw [bare_4t hs4 hs5];kernel_rfl
 refine Za (oW (oe (dF hs5) (kN 42 (Ze9 r) [(2,bx 1),(4,bx 2),(34,bF)] (Zf (ZA rfl (Zq (Zv (jC (kW 42 (Ze9 r) Kh ?_)))))))))
 refine Yk (WO 1 1 [0,0,0,0,0,0,0,0,0,0,0,0,0,0,2,2,0,0] rfl (ds:=[sv r.nm,iv r.kind,iv 0,iv 0,iv r.pf,iv r.pt,Zb r.resp,slA 6 cTh r.gz,Zb r.ex,Zb r.fa,iv r.rd,iv r.wr,Zb r.send,iv 0,.fr ((.sl 1 0 [])),.fr ((.sl 1 0 [])),Zb r.pz,iv r.dir]) (by kernel_rfl) (by kernel_rfl)) ?_
 refine Za (oW (oY (kN 42 [(2,.box 57 [sv r.nm,iv r.kind,iv 0,iv 0,iv r.pf,iv r.pt,Zb r.resp,slA 6 cTh r.gz,Zb r.ex,Zb r.fa,iv r.rd,iv r.wr,Zb r.send,iv 0,.fr ((.sl 1 0 [])),.fr ((.sl 1 0 [])),Zb r.pz,iv r.dir])] [(4,bx 2)] (Zf (Z4 ?_)))))
 refine K5 [(2,.box 57 [sv r.nm,iv r.kind,iv 0,iv 0,iv r.pf,iv r.pt,Zb r.resp,slA 6 cTh r.gz,Zb r.ex,Zb r.fa,iv r.rd,iv r.wr,Zb r.send,iv 0,.fr ((.sl 1 0 [])),.fr ((.sl 1 0 [])),Zb r.pz,iv r.dir])] Tryz.results119 (.cellS rfl rfl U57 rfl (z:=18) (by kernel_rfl) rfl (by decide)) (by kernel_rfl) rfl rfl ?_ ?_
 ·exact Zae (Y := .agg (cRu { r with frm:=0,«to» := 0,pos:=0,left:=[],right:=[] })) (by kernel_rfl) (Zh (Y0 _))
 ·rw [bare_4n hs4 hs5];kernel_rfl
 refine Za (oe (dF hs4) (oS bF (jI (jB (oC (ZM rfl (dT (by omega))) I0 I0 (oS bT (jH (Za (oW (oY (oW (oY (oW (oY (kN 42 (XOth_h7 r) Kh (Zv (jC ?_)))))))))))))))))
 refine kW 42 (XOth_h7 r) Kh (Za (oW (oY (kN 42 [(2,.box 57 [sv r.nm,iv r.kind,iv 0,iv 0,iv 0,iv 0,Zb r.resp,slA 6 cTh r.gz,Zb r.ex,Zb r.fa,iv r.rd,iv r.wr,Zb r.send,iv r.pos,Zb r.left,Zb r.right,Zb r.pz,iv 0])] [(4,bx 2)] (Zf (Z4 ?_))))))
 refine K5 [(2,.box 57 [sv r.nm,iv r.kind,iv 0,iv 0,iv 0,iv 0,Zb r.resp,slA 6 cTh r.gz,Zb r.ex,Zb r.fa,iv r.rd,iv r.wr,Zb r.send,iv r.pos,Zb r.left,Zb r.right,Zb r.pz,iv 0])] Tryz.results119 (.cellS rfl rfl U57 rfl (z:=18) (by kernel_rfl) rfl (by decide)) (by kernel_rfl) rfl rfl ?_ ?_
 ·exact Zae (Y := .agg (cRu { r with frm:=0,«to» := 0,pf:=0,pt:=0,dir:=0 })) (by kernel_rfl) (Zh (Y0 _))
 rw [bare_5 (by omega)];kernel_rfl
theorem plainR_el (lo:Nat) (w:World) (kind:Int) (h:I64 kind):RuEl lo w [.string ⟨#[]⟩,.int .i64 kind,.int .i64 0,.int .i64 0,.int .i64 0,.int .i64 0,.slice none 0 0,.slice none 0 0,.slice none 0 0,.slice none 0 0,.int .i64 (-1),.int .i64 (-1),.slice none 0 0,.int .i64 0,.slice none 0 0,.slice none 0 0,.slice none 0 0,.int .i64 0] (plainR kind) :=
 ⟨_,_,_,_,_,_,_,_,rfl,by show (⟨#[]⟩:ByteArray).size≤maxLen;simp [ByteArray.size,maxLen],h,Kx,Kx,Kx,Kx,WG _ _,ths_nil _ _,WG _ _,WG _ _,Za3,Za3,WG _ _,Kx,WG _ _,WG _ _,WG _ _,Kx⟩
theorem samePl_c {r s:Ru} (hr:RuOk r) (hs:RuOk s):Ctr Tryz.prog J 118 [.agg (cRu s),.agg [sv (⟨#[]⟩),iv r.kind,iv 0,iv 0,iv 0,iv 0,nz,nz,nz,nz,iv (-1),iv (-1),nz,iv 0,nz,nz,nz,iv 0]] (bv (samP s (plainR r.kind))):=ctr2 fun w v v' _ h h'=>by
 obtain ⟨vs,rfl,hl,hv⟩:=YX h
 obtain ⟨us,rfl,hl',hu⟩:=YX h'
 have e:=cells18 hl'
 rw [(hu 0 (by show 0<18;omega)).v_inv,(hu 1 (by show 1<18;omega)).v_inv,(hu 2 (by show 2<18;omega)).v_inv,(hu 3 (by show 3<18;omega)).v_inv,(hu 4 (by show 4<18;omega)).v_inv,(hu 5 (by show 5<18;omega)).v_inv,(hu 6 (by show 6<18;omega)).v_inv,(hu 7 (by show 7<18;omega)).v_inv,(hu 8 (by show 8<18;omega)).v_inv,(hu 9 (by show 9<18;omega)).v_inv,(hu 10 (by show 10<18;omega)).v_inv,(hu 11 (by show 11<18;omega)).v_inv,(hu 12 (by show 12<18;omega)).v_inv,(hu 13 (by show 13<18;omega)).v_inv,(hu 14 (by show 14<18;omega)).v_inv,(hu 15 (by show 15<18;omega)).v_inv,(hu 16 (by show 16<18;omega)).v_inv,(hu 17 (by show 17<18;omega)).v_inv] at e
 rw [e]
 exact (ZcO (ru_of (lo:=0) hs (fun _ _=>Nat.zero_le _) hl hv) (plainR_el 0 _ _ hr.kind)).mono fun _ _=>ret_sc
theorem ZcV (hk:r.kind=1∨r.kind=2∨r.kind=3∨r.kind=4∨r.kind=5) (HR:RuOk r):Ctr Tryz.prog J 108 [.agg (cRu r),iv top] (bv (othB r top)):=by
 refine Zm Tryz.func108 rfl (pN (Zh (Y0 r)) (pN (.v _) pZ)) (n:=12) rfl (by simp) (fun w0 => ?_)
 refine kW 12 [] [(0,.agg (cRu r)),(1,iv top)] (jB (oA (ZD (X := .agg (cRu r)) (.tmp 0) rfl rfl rfl) I0 (oS bF (jD ?_))))
 refine tD (dA (Zj (z:=18) (.tmp 2) rfl U57 rfl (by kernel_rfl) rfl rfl) I0 (dS (iv top) (dD (Zbb (c := .func 119) (xs := #[.tmp 5,.tmp 6]) (ZcA hk) rfl (by kernel_rfl) rfl (Xs:=[.agg (cRu r),iv top]) rfl rfl) I0 I0 I0 (dW (dS (iv r.kind) (dD (Ki [(.tmp 9,.int .i64 r.kind),(.const (.int .i64 (-1)),.int .i64 (-1)),(.const (.int .i64 (-1)),.int .i64 (-1))] #[.string (⟨#[]⟩),.int .i64 r.kind,.int .i64 0,.int .i64 0,.int .i64 0,.int .i64 0,.slice none 0 0,.slice none 0 0,.slice none 0 0,.slice none 0 0,.int .i64 (-1),.int .i64 (-1),.slice none 0 0,.int .i64 0,.slice none 0 0,.slice none 0 0,.slice none 0 0,.int .i64 0] rfl rfl (by kernel_rfl) rfl) I0 I0 I0 (dk (samePl_c HR (bareOk hk HR)) [.agg (cRu (bare r top)),.agg [sv (⟨#[]⟩),iv r.kind,iv 0,iv 0,iv 0,iv 0,nz,nz,nz,nz,iv (-1),iv (-1),nz,iv 0,nz,nz,nz,iv 0]] rfl rfl (dS (bv (samP (bare r top) (plainR r.kind))) (eD ?_)))))))))
 refine Zf (Z4 ?_)
 refine Zg Tryz.results108 (.tmp rfl) ?_
 exact rfl
variable {lo:Nat}{w:World}
theorem th_puo {F ok:Nat→Prop} (g:Th) (vs:List Value) (h:ThEl lo w vs g):∀ j (hj:j<(cTh g).length),Pu F w ok (cTh g)[j] (vs.getD j undef):=by
 obtain ⟨rfl,_⟩:=h
 intro j hj
 match j,hj with
 | 0,_=>exact .v _
 | 1,_=>exact .v _
 | 2,_=>exact .v _
 | 3,_=>exact .v _
 | 4,_=>exact .v _
 | 5,_=>exact .v _
theorem ru_puo {F ok:Nat→Prop} (hok:∀ b,lo≤b→b<w.heap.size→ok b) (r:Ru) (vs:List Value) (h:RuEl lo w vs r):∀ j (hj:j<(cRu r).length),Pu F w ok (cRu r)[j] (vs.getD j undef):=by
 obtain ⟨v6,v7,v8,v9,v12,v14,v15,v16,rfl,h0,h1,h2,h3,h4,h5,h6,h7,h8,h9,h10,h11,h12,h13,h14,h15,h16,h17⟩:=h
 intro j hj
 match j,hj with
 | 0,_=>exact .v _
 | 1,_=>exact .v _
 | 2,_=>exact .v _
 | 3,_=>exact .v _
 | 4,_=>exact .v _
 | 5,_=>exact .v _
 | 6,_=>exact YA hok h6
 | 7,_=>exact sl_pu lenTh hok th_puo h7
 | 8,_=>exact YA hok h8
 | 9,_=>exact YA hok h9
 | 10,_=>exact .v _
 | 11,_=>exact .v _
 | 12,_=>exact YA hok h12
 | 13,_=>exact .v _
 | 14,_=>exact YA hok h14
 | 15,_=>exact YA hok h15
 | 16,_=>exact YA hok h16
 | 17,_=>exact .v _
 | j+18,hj=>exact absurd hj (by rw [lenRu];omega)
variable {cs:List Value}
theorem WX (top:Int) (hk:r.kind=1∨r.kind=2∨r.kind=3∨r.kind=4∨r.kind=5) (h:RuEl lo w cs r) :
 Calls Tryz.prog 108 #[.agg cs.toArray,.int .i64 top] w fun e w'=>e = .returned (.bool (othB r top))∧Below w.heap.size w w':=by
 have hl:cs.length=18:=by
  obtain ⟨v6,v7,v8,v9,v12,v14,v15,v16,rfl,_⟩:=h
  rfl
 refine (ZcV (J:=fun _=>True) (top:=top) hk h.ok w #[.agg cs.toArray,.int .i64 top] (fun _ _=>T0) rfl fun j hj => ?_).mono fun e w' ⟨_,he,hp,hb⟩=>⟨by rw [he,hp.v_inv],hb⟩
 match j,hj with
 | 0,_=>exact .agg (by simp [hl,cRu]) fun j hj=>by have:=ru_puo (F:=fun _=>True) (ok:=fun b=>b<w.heap.size) (fun _ _ hb=>hb) r cs h j hj;simpa [List.getD_eq_getElem?_getD] using this
 | 1,_=>exact .v _
end Go.Proofs.YtdbehgbggaaipaaGreat
namespace Go.Proofs.YtdbehgbggaaipaaGreat
end Go.Proofs.YtdbehgbggaaipaaGreat
namespace Go.Proofs.YtdbehgbggaaipaaGreat
open Go.RowKit Go.Deep
def cmpN (x y:Int):Int:=if x<y then -1 else if y<x then 1 else 0
def orL:List Int→Int
 | []=>0
 | x::xs=>if x=0 then orL xs else x
set_option maxHeartbeats 12800000
theorem OrE_full (b off n cap:Nat) (w:World) (xs:List Int) (hx:xs.length=n) (hn:n≤9223372036854775807)
 (hc:∀ i,i<n→w.cell? ⟨b,off+i,none⟩=some (.int .i64 (xs.getD i 0))) :
 Calls Tryz.prog 77 #[.slice (some ⟨b,off,none⟩) n cap] w fun e w'=>e = .returned (.int .i64 (orL xs))∧w=w':=by
 have HC:=Lib.hid hc
 have HX:=Lib.hid hx
 clear hc hx
 go_enter Tryz.func77,Tryz.ntmps77
 go_wp2_with fail
 go_loop [8] (fun u=>∃ k:Nat,k≤n∧u = .int .i64 k∧orL (xs.drop k)=orL xs) (fun u=>n-(intOf u).toNat)
 case atStart=>exact ⟨0,Nat.zero_le _,rfl,rfl⟩
 case round =>
  obtain ⟨k,hk,rfl,hs⟩:=hrel
  have HS:=Lib.hid hs
  clear hs
  by_cases hlt:k<n
  ·have g1:=HC.out k hlt
   have HD:=Lib.hid (show orL (xs.drop k)=if xs.getD k 0=0 then orL (xs.drop (k+1)) else xs.getD k 0 by
    have hd:xs.drop k=xs[k]'(by rw [HX.out];exact hlt)::xs.drop (k+1):=List.drop_eq_getElem_cons _
    rw [hd,orL,show xs.getD k 0=xs[k]'(by rw [HX.out];exact hlt) by simp [List.getD,List.getElem?_eq_getElem (show k<xs.length by rw [HX.out];exact hlt)]])
   generalize hX:xs.getD k 0=x at g1 HD
   clear hX
   by_cases x0:x=0
   ·subst x0
    go_wp2_with fail
    go_round
    case rel=>exact ⟨k+1,by omega,by go_num,by rw [← HS.out,HD.out,if_pos rfl]⟩
    case measure=>simp [intOf];omega
   have x3:(x != 0)=true:=by simpa using x0
   have XX:=Lib.hid x0
   clear x0
   go_wp2_with fail
   go_ret
   exact ⟨Zt (by rw [← HS.out,HD.out,if_neg XX.out]),rfl⟩
  have HE:=Lib.hid (show orL xs=0 by rw [← HS.out,List.drop_eq_nil_of_le (by rw [HX.out];omega),orL])
  go_wp2_with fail
  go_ret
  exact ⟨Zt (by rw [HE.out]),rfl⟩
variable {w:World}{g n:Nat}
theorem Wn {t:TypeId} {cs:Array Value} (xs:List Int) (hg:w.heap[g]? = some (.cells cs t (0,0))) (hcs:cs=(xs.map (Value.int .i64)).toArray) (hn:n=xs.length) (hb:n≤1000) :
 Calls Tryz.prog 77 #[.slice (some ⟨g,0,none⟩) n n] w fun e w'=>e = .returned (.int .i64 (orL xs))∧w=w' :=
 OrE_full g 0 n n w xs hn.symm (by omega) fun i hi=>by
  subst hcs hn
  simp [World.cell?,hg,hi]
theorem Zck (a:Int) (xs:List Int):orL (a::xs)=orE a (orL xs):=rfl
variable {lo:Nat}{cs:List Value}{r:Ru}
theorem ZbA (h:RuEl lo w cs r):∃ v6 v7 v8 v9 v12 v14 v15 v16,cs=[.string r.nm,.int .i64 r.kind,.int .i64 r.frm,.int .i64 r.to,.int .i64 r.pf,.int .i64 r.pt,v6,v7,v8,v9,.int .i64 r.rd,.int .i64 r.wr,v12,.int .i64 r.pos,v14,v15,v16,.int .i64 r.dir] ∧
 IsInts lo w v6 r.resp∧IsSl 6 ThEl lo w v7 r.gz∧IsInts lo w v8 r.ex∧IsInts lo w v9 r.fa∧IsInts lo w v12 r.send∧IsInts lo w v14 r.left∧IsInts lo w v15 r.right∧IsInts lo w v16 r.pz:=by
 obtain ⟨v6,v7,v8,v9,v12,v14,v15,v16,rfl,h0,h1,h2,h3,h4,h5,h6,h7,h8,h9,h10,h11,h12,h13,h14,h15,h16,h17⟩:=h
 exact ⟨v6,v7,v8,v9,v12,v14,v15,v16,rfl,h6,h7,h8,h9,h12,h14,h15,h16⟩
variable {v:Value}
theorem Zb6 {lo lo':Nat} {q:Fm} (hq:IsFam lo w v q) (h:RuEl lo' w cs r) :
 Calls Tryz.prog 110 #[v,.agg cs.toArray] w fun e w'=>e = .returned (.int .i64 (partE q r))∧Below w.heap.size w w':=by
 obtain ⟨v2,v3,v4,v6,v7,v8,v9,rfl,_,_,h2,h3,h4,_,h6,h7,h8,h9⟩:=hq
 have HN:=Lib.hid h2.bound
 have HM:=Lib.hid h3.bound
 have HV:=Lib.hid h4.bound
 obtain ⟨a2,c2,rfl⟩:=h2.shape
 obtain ⟨a3,c3,rfl⟩:=h3.shape
 obtain ⟨a4,c4,rfl⟩:=h4.shape
 clear h2 h3 h4 h6 h7 h8 h9
 obtain ⟨u6,u7,u8,u9,u12,u14,u15,u16,hcs,k6,k7,k8,k9,k12,k14,k15,k16⟩:=ZbA h
 obtain ⟨b6,d6,rfl⟩:=k6.shape
 obtain ⟨b7,d7,rfl⟩:=k7.shape
 obtain ⟨b8,d8,rfl⟩:=k8.shape
 obtain ⟨b9,d9,rfl⟩:=k9.shape
 obtain ⟨b12,d12,rfl⟩:=k12.shape
 obtain ⟨b14,d14,rfl⟩:=k14.shape
 obtain ⟨b15,d15,rfl⟩:=k15.shape
 obtain ⟨b16,d16,rfl⟩:=k16.shape
 have H:=Lib.hid h
 have K6:=Lib.hid k6
 have K7:=Lib.hid k7
 have K8:=Lib.hid k8
 have K9:=Lib.hid k9
 have K12:=Lib.hid k12
 have K14:=Lib.hid k14
 have K15:=Lib.hid k15
 have K16:=Lib.hid k16
 have HC:=Lib.hid hcs
 clear h k6 k7 k8 k9 k12 k14 k15 k16 hcs
 go_enter Tryz.func110,Tryz.ntmps110
 go_upto_region 1 with (fail)
 obtain ⟨W,hW⟩:∃ W:World,W=(w.alloc (.cells #[.string q.nm,.int .i64 q.top,.slice a2 q.sz.length c2,.slice a3 q.msgs.length c3,.slice a4 q.vals.length c4,.int .i64 q.fzz,v6,v7,v8,v9] 27)).alloc (.cells cs.toArray 57):=⟨_,rfl⟩
 rw [← hW]
 have HB:=Lib.hid (show Below w.heap.size w W by rw [hW];show Below _ _ _;go_grown)
 have HP:=Lib.hid (show W.heap[w.heap.size]? = some (.cells #[.string q.nm,.int .i64 q.top,.slice a2 q.sz.length c2,.slice a3 q.msgs.length c3,.slice a4 q.vals.length c4,.int .i64 q.fzz,v6,v7,v8,v9] 27 (0,0)) by rw [hW];exact (ZaI _ _ (by simp)).trans (ZY _ _ rfl))
 have HG:=Lib.hid (show W.heap[w.heap.size+1]? = some (.cells cs.toArray 57 (0,0)) by rw [hW];exact ZY _ _ (by simp))
 clear hW
 have HL:=Lib.hid (show cs.length=18 by rw [HC.out];rfl)
 have HGn:=Lib.hid (show ∀ n:WIn (Below W.heap.size W),n.val.heap[w.heap.size+1]? = some (.cells cs.toArray 57 (0,0)) from fun n=>keepB HG.out n.ok)
 have HPn:=Lib.hid (show ∀ n:WIn (Below W.heap.size W),n.val.heap[w.heap.size]? = some (.cells #[.string q.nm,.int .i64 q.top,.slice a2 q.sz.length c2,.slice a3 q.msgs.length c3,.slice a4 q.vals.length c4,.int .i64 q.fzz,v6,v7,v8,v9] 27 (0,0)) from fun n=>keepB HP.out n.ok)
 have HBn:=Lib.hid (show ∀ n:WIn (Below W.heap.size W),Below w.heap.size w n.val from fun n=>Ze HB.out n.ok)
 have x1:W.cell? ⟨w.heap.size+1,1,none⟩=some (.int .i64 r.kind):=ZH HG.out 1 (by rw [HC.out];rfl)
 have x6:W.cell? ⟨w.heap.size+1,6,none⟩=some (.slice b6 r.resp.length d6):=ZH HG.out 6 (by rw [HC.out];rfl)
 have x17:W.cell? ⟨w.heap.size+1,17,none⟩=some (.int .i64 r.dir):=ZH HG.out 17 (by rw [HC.out];rfl)
 have y7:∀ n:WIn (Below W.heap.size W),n.val.cell? ⟨w.heap.size+1,7,none⟩=some (.slice b7 r.gz.length d7):=fun n=>ZH (HGn.out n) 7 (by rw [HC.out];rfl)
 have y8:∀ n:WIn (Below W.heap.size W),n.val.cell? ⟨w.heap.size+1,8,none⟩=some (.slice b8 r.ex.length d8):=fun n=>ZH (HGn.out n) 8 (by rw [HC.out];rfl)
 have y9:∀ n:WIn (Below W.heap.size W),n.val.cell? ⟨w.heap.size+1,9,none⟩=some (.slice b9 r.fa.length d9):=fun n=>ZH (HGn.out n) 9 (by rw [HC.out];rfl)
 have y12:∀ n:WIn (Below W.heap.size W),n.val.cell? ⟨w.heap.size+1,12,none⟩=some (.slice b12 r.send.length d12):=fun n=>ZH (HGn.out n) 12 (by rw [HC.out];rfl)
 have y13:∀ n:WIn (Below W.heap.size W),n.val.cell? ⟨w.heap.size+1,13,none⟩=some (.int .i64 r.pos):=fun n=>ZH (HGn.out n) 13 (by rw [HC.out];rfl)
 have y14:∀ n:WIn (Below W.heap.size W),n.val.cell? ⟨w.heap.size+1,14,none⟩=some (.slice b14 r.left.length d14):=fun n=>ZH (HGn.out n) 14 (by rw [HC.out];rfl)
 have y15:∀ n:WIn (Below W.heap.size W),n.val.cell? ⟨w.heap.size+1,15,none⟩=some (.slice b15 r.right.length d15):=fun n=>ZH (HGn.out n) 15 (by rw [HC.out];rfl)
 have y16:∀ n:WIn (Below W.heap.size W),n.val.cell? ⟨w.heap.size+1,16,none⟩=some (.slice b16 r.pz.length d16):=fun n=>ZH (HGn.out n) 16 (by rw [HC.out];rfl)
 have p1:W.cell? ⟨w.heap.size,1,none⟩=some (.int .i64 q.top):=ZH HP.out 1 rfl
 have p2:W.cell? ⟨w.heap.size,2,none⟩=some (.slice a2 q.sz.length c2):=ZH HP.out 2 rfl
 have p4:W.cell? ⟨w.heap.size,4,none⟩=some (.slice a4 q.vals.length c4):=ZH HP.out 4 rfl
 have z1:∀ n:WIn (Below W.heap.size W),n.val.cell? ⟨w.heap.size,1,none⟩=some (.int .i64 q.top):=fun n=>ZH (HPn.out n) 1 rfl
 have z3:∀ n:WIn (Below W.heap.size W),n.val.cell? ⟨w.heap.size,3,none⟩=some (.slice a3 q.msgs.length c3):=fun n=>ZH (HPn.out n) 3 rfl
 have z4:∀ n:WIn (Below W.heap.size W),n.val.cell? ⟨w.heap.size,4,none⟩=some (.slice a4 q.vals.length c4):=fun n=>ZH (HPn.out n) 4 rfl
 by_cases t3:r.kind=3
 ·rw [t3] at x1
  by_cases e0:reE q.sz.length r.resp=0
  ·have E:=Lib.hid (show shE q.vals.length r.rd r.wr=partE q r by unfold partE;rw [if_pos t3,e0,Zy])
   have E0:=Lib.hid e0
   clear t3 e0
   go_upto_region 10 with ((go_at_call 120;(with_reducible refine (Wd q.sz.length HN.out (K6.out.below HB.out)).mono ?_);rintro e w1 ⟨rfl,rfl⟩;rw [E0.out]))
   refine Zz ?_
   refine BigFrame.wpQuiet_want (by rfl) (fun K hK => ?_)
   refine Yi Tryz.underlying57 Yr (.tmp 3) (by rfl) (w.heap.size+1) 0 cs (by rfl) HL.out (by rintro _ ⟨n,rfl⟩;exact ZT (HGn.out n)) (hK _ ?_)
   clear hK K
   simp only [Act.put,List.setIfInBounds_toArray,List.set_cons_succ,List.set_cons_zero]
   iterate 3 go_big_quiet_step (fail)
   go_big_quiet_step (((with_reducible refine (KM q.vals.length HV.out (H.out.below (HBn.out _))).mono ?_);rintro e w1 ⟨rfl,hb⟩;exact ⟨rfl,⟨w1,Ze (WIn.ok _) hb⟩,rfl⟩))
   go_big_quiet_step (fail)
   refine wpQuiet_nil ?_
   intro n
   go_wp2_with fail
   go_ret
   exact ⟨Zt E.out,HBn.out n⟩
  have e1:(reE q.sz.length r.resp != 0)=true:=by simpa using e0
  have E:=Lib.hid (show reE q.sz.length r.resp=partE q r by unfold partE;rw [if_pos t3,Ke _ e0])
  clear t3 e0
  go_wp2_with (go_at_call 120;(with_reducible refine (Wd q.sz.length HN.out (K6.out.below HB.out)).mono ?_);rintro e w1 ⟨rfl,rfl⟩)
  go_ret
  exact ⟨Zt E.out,HB.out⟩
 have f3:(r.kind==3)=false:=by simpa using t3
 by_cases t2:r.kind=2
 ·rw [t2] at x1
  have E:=Lib.hid (show shE q.vals.length r.rd r.wr=partE q r by unfold partE;rw [if_neg t3,if_pos t2])
  clear t2 t3 f3
  go_upto_region 10 with (fail)
  refine Zz ?_
  refine BigFrame.wpQuiet_want (by rfl) (fun K hK => ?_)
  refine Yi Tryz.underlying57 Yr (.tmp 3) (by rfl) (w.heap.size+1) 0 cs (by rfl) HL.out (by rintro _ ⟨n,rfl⟩;exact ZT (HGn.out n)) (hK _ ?_)
  clear hK K
  simp only [Act.put,List.setIfInBounds_toArray,List.set_cons_succ,List.set_cons_zero]
  iterate 3 go_big_quiet_step (fail)
  go_big_quiet_step (((with_reducible refine (KM q.vals.length HV.out (H.out.below (HBn.out _))).mono ?_);rintro e w1 ⟨rfl,hb⟩;exact ⟨rfl,⟨w1,Ze (WIn.ok _) hb⟩,rfl⟩))
  go_big_quiet_step (fail)
  refine wpQuiet_nil ?_
  intro n
  go_wp2_with fail
  go_ret
  exact ⟨Zt E.out,HBn.out n⟩
 have f2:(r.kind==2)=false:=by simpa using t2
 by_cases t1:r.kind=1
 ·rw [t1] at x1
  have E:=Lib.hid (show orL [guardE q.msgs.length r.gz,setE q.sz.length r.ex,setE q.sz.length r.fa,shE q.vals.length r.rd r.wr,setE q.msgs.length r.send]=partE q r by unfold partE;rw [if_neg t3,if_neg t2,if_pos t1];simp only [Zck];rw [show orL []=0 from rfl,Ks])
  clear t1 t2 t3 f2 f3
  go_upto_region 11 with (fail)
  refine Wp 25 (by kernel_rfl) (by kernel_rfl) ?_
  simp only [List.take_succ_cons,List.take_zero]
  iterate 5 go_big_quiet_step (fail)
  go_big_quiet_step (((with_reducible refine (ZbN q.msgs.length HM.out (K7.out.below ThEl.stays (HBn.out _))).mono ?_);rintro e w1 ⟨rfl,hb⟩;exact ⟨rfl,⟨w1,Ze (WIn.ok _) hb⟩,rfl⟩))
  iterate 3 go_big_quiet_step (fail)
  go_big_quiet_step (((with_reducible refine (Yq q.sz.length HN.out (K8.out.below (HBn.out _))).mono ?_);rintro e w1 ⟨rfl,hb⟩;exact ⟨rfl,⟨w1,Ze (WIn.ok _) hb⟩,rfl⟩))
  iterate 3 go_big_quiet_step (fail)
  go_big_quiet_step (((with_reducible refine (Yq q.sz.length HN.out (K9.out.below (HBn.out _))).mono ?_);rintro e w1 ⟨rfl,hb⟩;exact ⟨rfl,⟨w1,Ze (WIn.ok _) hb⟩,rfl⟩))
  refine BigFrame.wpQuiet_want (by rfl) (fun K hK => ?_)
  refine Yi Tryz.underlying57 Yr (.tmp 3) (by rfl) (w.heap.size+1) 0 cs (by rfl) HL.out (by rintro _ ⟨n,rfl⟩;exact ZT (HGn.out n)) (hK _ ?_)
  clear hK K
  simp only [Act.put,List.setIfInBounds_toArray,List.set_cons_succ,List.set_cons_zero]
  iterate 3 go_big_quiet_step (fail)
  go_big_quiet_step (((with_reducible refine (KM q.vals.length HV.out (H.out.below (HBn.out _))).mono ?_);rintro e w1 ⟨rfl,hb⟩;exact ⟨rfl,⟨w1,Ze (WIn.ok _) hb⟩,rfl⟩))
  iterate 5 go_big_quiet_step (fail)
  go_big_quiet_step (((with_reducible refine (Yq q.msgs.length HM.out (K12.out.below (HBn.out _))).mono ?_);rintro e w1 ⟨rfl,hb⟩;exact ⟨rfl,⟨w1,Ze (WIn.ok _) hb⟩,rfl⟩))
  refine wpQuiet_nil ?_
  intro m
  simp only [List.drop_succ_cons,List.drop_zero]
  have M:=m
  go_wp2_with (go_at_call 77;refine (Wn [guardE q.msgs.length r.gz,setE q.sz.length r.ex,setE q.sz.length r.fa,shE q.vals.length r.rd r.wr,setE q.msgs.length r.send] (by exact ZY m.val _ rfl) (by rfl) (by rfl) (by simp)).mono ?_;rintro e w1 ⟨rfl,rfl⟩)
  go_ret
  exact ⟨Zt E.out,Ze (HBn.out m) (Zd m.val _)⟩
 have f1:(r.kind==1)=false:=by simpa using t1
 by_cases t4:r.kind=4
 ·rw [t4] at x1
  have E:=Lib.hid (show orL [setE q.sz.length r.left,setE q.sz.length r.right,setE q.sz.length r.pz,posE r.pos q.top]=partE q r by unfold partE;rw [if_neg t3,if_neg t2,if_neg t1,if_pos t4];simp only [Zck];rw [show orL []=0 from rfl,Ks])
  clear t1 t2 t3 t4 f1 f2 f3
  go_upto_region 12 with (fail)
  refine Wp 17 (by kernel_rfl) (by kernel_rfl) ?_
  simp only [List.take_succ_cons,List.take_zero]
  iterate 3 go_big_quiet_step (fail)
  go_big_quiet_step (((with_reducible refine (Yq q.sz.length HN.out (K14.out.below (HBn.out _))).mono ?_);rintro e w1 ⟨rfl,hb⟩;exact ⟨rfl,⟨w1,Ze (WIn.ok _) hb⟩,rfl⟩))
  iterate 3 go_big_quiet_step (fail)
  go_big_quiet_step (((with_reducible refine (Yq q.sz.length HN.out (K15.out.below (HBn.out _))).mono ?_);rintro e w1 ⟨rfl,hb⟩;exact ⟨rfl,⟨w1,Ze (WIn.ok _) hb⟩,rfl⟩))
  iterate 3 go_big_quiet_step (fail)
  go_big_quiet_step (((with_reducible refine (Yq q.sz.length HN.out (K16.out.below (HBn.out _))).mono ?_);rintro e w1 ⟨rfl,hb⟩;exact ⟨rfl,⟨w1,Ze (WIn.ok _) hb⟩,rfl⟩))
  iterate 4 go_big_quiet_step (fail)
  go_big_quiet_step (((with_reducible refine (ZaP r.pos q.top _).mono ?_);rintro e w1 ⟨rfl,hb⟩;subst hb;exact ⟨rfl,⟨_,WIn.ok _⟩,rfl⟩))
  refine wpQuiet_nil ?_
  intro m
  simp only [List.drop_succ_cons,List.drop_zero]
  have M:=m
  go_wp2_with (go_at_call 77;refine (Wn [setE q.sz.length r.left,setE q.sz.length r.right,setE q.sz.length r.pz,posE r.pos q.top] (by exact ZY m.val _ rfl) (by rfl) (by rfl) (by simp)).mono ?_;rintro e w1 ⟨rfl,rfl⟩)
  go_ret
  exact ⟨Zt E.out,Ze (HBn.out m) (Zd m.val _)⟩
 have f4:(r.kind==4)=false:=by simpa using t4
 have E:=Lib.hid (show dirE r.dir q.top=partE q r by unfold partE;rw [if_neg t3,if_neg t2,if_neg t1,if_neg t4])
 clear t1 t2 t3 t4
 go_wp2_with (go_at_call 124;(with_reducible refine (ZaK r.dir q.top _).mono ?_);rintro e w1 ⟨rfl,rfl⟩)
 go_ret
 exact ⟨Zt E.out,HB.out⟩
variable {P:Program}
theorem make_n (t e:TypeId) (z:Value) (s bytes:Nat) (ht:P.underlying t=some (.slice e)) (hinfo:(P.info? e).map (fun i=>(i.zero,i.size,i.bytes))=some (some z,s,bytes))
 (n:Nat) (hbytes:bytes*n≤281474976710656) (h63:n≤9223372036854775807) (w:World) :
 (Instr.makeSlice t (.int .i64 (n:Int)) (.int .i64 (n:Int))).run P w = .ok (.slice (some ⟨w.heap.size,0,none⟩) n n) (w.alloc (.cells (madeCells z.cells (n*s)) e)):=by
 obtain ⟨i,hi,hzz⟩:=Option.map_eq_some_iff.1 hinfo
 simp only [Prod.mk.injEq] at hzz
 obtain ⟨hz,rfl,rfl⟩:=hzz
 have hb':(i.bytes:Int)*(n:Int)≤281474976710656:=by
  have h:((i.bytes*n:Nat):Int)≤281474976710656:=by omega
  rwa [Int.natCast_mul] at h
 have hr:=run_make (P:=P) w t e i z ht hi hz .i64 .i64 n n (by omega) (Int.le_refl _) hb' (by omega)
 simp only [Int.toNat_natCast] at hr
 exact hr
theorem made_get (z:Array Value) (m j:Nat) (v:Value) (hj:j<m) (hz:z[j % z.size]! = v):(madeCells z m)[j]? = some v:=by
 subst hz;simp [madeCells,hj]
def up (f:Nat→Int) (i:Nat) (v:Int):Nat→Int:=fun j=>if j=i then v else f j
theorem Yy (f:Nat→Int) (i:Nat) (v:Int):up f i v i=v:=by simp [up]
variable {i j:Nat}
theorem Kb (f:Nat→Int) (v:Int) (h:j≠i):up f i v j=f j:=by simp [up,h]
def OwnF (lo:Nat) (w:World) (g m:Nat) (f:Nat→Int):Prop :=
 lo≤g∧∃ cur t,w.heap[g]? = some (.cells cur t (0,0))∧∀ j,j<m→cur[j]? = some (.int .i64 (f j))
variable {m:Nat}
theorem OwnF.lt {f:Nat→Int} (h:OwnF lo w g m f):g<w.heap.size:=by
 obtain ⟨_,cur,t,hg,_⟩:=h;exact (Array.getElem?_eq_some_iff.1 hg).1
theorem OwnF.cell {lo:Nat} {w:World} {g m:Nat} {f:Nat→Int} (h:OwnF lo w g m f) (j:Nat) (hj:j<m):w.cell? ⟨g,j,none⟩=some (.int .i64 (f j)):=by
 obtain ⟨_,cur,t,hg,hc⟩:=h
 have:=hc j hj
 simp only [World.cell?,hg]
 simpa using this
theorem OwnF.frozen {lo:Nat} {w:World} {g m:Nat} {f:Nat→Int} (h:OwnF lo w g m f) (j:Nat):w.frozen? ⟨g,j,none⟩=false:=by
 obtain ⟨_,cur,t,hg,hc⟩:=h
 simp [World.frozen?,hg]
variable {w':World}
theorem OwnF.but {f:Nat→Int} (h:OwnF lo w g m f) (hb:w'.heap[g]? = w.heap[g]?):OwnF lo w' g m f:=by
 obtain ⟨h1,cur,t,hg,hc⟩:=h;exact ⟨h1,cur,t,by rw [hb];exact hg,hc⟩
theorem OwnF.below {f:Nat→Int} (h:OwnF lo w g m f) (hb:Below w.heap.size w w'):OwnF lo w' g m f:=h.but (hb.block g h.lt)
theorem OwnF.set {f:Nat→Int} (h:OwnF lo w g m f) (i:Nat) (v:Int):OwnF lo (w.setCell ⟨g,i,none⟩ (.int .i64 v)) g m (up f i v):=by
 obtain ⟨h1,cur,t,hg,hc⟩:=h
 refine ⟨h1,cur.setIfInBounds i (.int .i64 v),t,heap_setCell_same w g i cur t _ hg,fun j hj => ?_⟩
 have hcj:=hc j hj
 have hjc:j<cur.size:=(Array.getElem?_eq_some_iff.1 hcj).1
 by_cases e:i=j
 ·subst e
  rw [Yy]
  simp [hjc]
 rw [Array.getElem?_setIfInBounds_ne e,hcj,Kb _ _ (Ne.symm e)]
theorem OwnF.setOther {f:Nat→Int} (h:OwnF lo w g m f) (a:Addr) (u:Value) (hne:a.block≠g):OwnF lo (w.setCell a u) g m f :=
 h.but (Below.heap_setCell _ _ _ _ (fun e=>hne e.symm))
theorem OwnF.grown {f:Nat→Int} {r:Option Nat} (h:OwnF lo w g m f) (hg:w.grownBy w' r) (hr:r≠some g):OwnF lo w' g m f :=
 h.but (hg.block g h.lt (Ne.symm hr))
structure ElT (P:Program) (T E:TypeId) (z:Value) (size bytes:Nat):Prop where
 ht:P.underlying T=some (.slice E)
 info:(P.info? E).map (fun i=>(i.zero,i.size,i.bytes))=some (some z,size,bytes)
 hz:z.cells.size=size
 h0:0<size
theorem KJ {T E:TypeId} {z:Value} {size bytes:Nat} (K:ElT P T E z size bytes) {W:World} {ops:Array Oper} {rest:List Oper} {o:Oper} {a:Act} {Q:Exit→Act→World→Prop}
 (hgd:o.guard=none) (s x:Operand) (ho:o.op = .call { callee := .builtin .append,args := #[s,x],argTypes := #[T,T] })
 (base:Nat) (v:Value) (n:Nat) (xs news:List Value) (Hn:Nat) (hs:a.eval s=v) (hx:a.eval x = .slice (some ⟨Hn,0,none⟩) 1 1) (hH:W.heap.size=Hn) (hown:W.ownsRow base E size v n xs)
 (hl:news.length=size) (h1:∀ u∈news,u.oneCell'=true) (hn:(n+1)*bytes≤140737488355328) (h63:n+1≤maxLen) (hbase:base≤Hn) {B:Array Value} (hB:B=news.toArray)
 (h:∀ g cap w',w'.ownsRow base E size (.slice (some ⟨g,0,none⟩) (n+1) cap) (n+1) (xs++news)→W.grownBy w' v.ownBlock→(v.ownBlock=some g∨Hn<g)→base≤g→g<w'.heap.size→Hn<w'.heap.size→wpList P ops Q rest (a.put o.dst (.slice (some ⟨g,0,none⟩) (n+1) cap)) w') :
 wpList P ops Q (o::rest) a (W.alloc (.cells B E)):=by
 subst hB hH
 obtain ⟨i,hi,hzz⟩:=Option.map_eq_some_iff.1 K.info
 simp only [Prod.mk.injEq] at hzz
 obtain ⟨hz,hsz,hby⟩:=hzz
 refine wpList_append_lies (W.alloc (.cells news.toArray E)) hgd s x T ho base E i z size bytes K.ht hi hz hsz hby K.hz K.h0 v n xs hs (hown.alloc _) ⟨W.heap.size,0,none⟩ 1 1 news hx (by omega)
  (World.news_of_block (heap_alloc_new _ _)) h1 (by decide) h63 hn (by simp;omega) (W.heap.size+1) (by simp) fun g cap w' g1 g2 g3 g4 => ?_
 have hgr:W.grownBy w' v.ownBlock:=by
  have ha:=World.grownBy_alloc W (.cells news.toArray E) v.ownBlock
  exact ⟨g2.os.trans ha.os,g2.tape.trans ha.tape,g2.output.trans ha.output,Nat.le_trans ha.size g2.size,fun k hk hne=>(g2.block k (by simp;omega) hne).trans (ha.block k hk hne)⟩
 refine h g cap w' g1 hgr ?_ ?_ g4 (by have:=g2.size;simp at this;omega)
 ·rcases g3 with g3 | g3
  ·exact .inl g3
  exact .inr (by omega)
 rcases g3 with g3 | g3
 ·exact (hown.lt g g3).1
 omega
variable {base c:Nat}{e:TypeId}{xs:List Value}{a:Option Addr}
theorem row_cut (h:w.ownsRow base e 1 (.slice a (n+1) c) (n+1) xs):w.ownsRow base e 1 (.slice a n c) n (xs.take n):=by
 obtain ⟨hl,h2⟩:=h
 refine ⟨by rw [List.length_take];omega,?_⟩
 rcases h2 with ⟨_,h0⟩ | ⟨g,cap,cur,hv,hb,hg,hn,hm,hs,ht⟩
 ·omega
 simp only [Value.slice.injEq] at hv
 obtain ⟨rfl,_,rfl⟩:=hv
 exact .inr ⟨g,c,cur,rfl,hb,hg,by omega,hm,hs,by rw [← ht,List.take_take,Nat.mul_one,Nat.mul_one,Nat.min_eq_left (by omega)]⟩
variable {size:Nat}
theorem Wc (h:w.ownsRow base e size v n xs):∃ a c,v = .slice a n c:=by
 rcases h.2 with ⟨rfl,rfl⟩ | ⟨g,cap,_,rfl,_⟩
 ·exact ⟨_,_,rfl⟩
 exact ⟨_,_,rfl⟩
theorem row_last (h:w.ownsRow base e 1 (.slice a (n+1) c) (n+1) (xs)):∃ g,a=some ⟨g,0,none⟩∧base≤g∧g<w.heap.size∧n<c∧c≤maxLen∧∀ j,j<n+1→w.cell? ⟨g,j,none⟩=xs[j]? := by
 obtain ⟨hl,h2⟩:=h
 rcases h2 with ⟨_,h0⟩ | ⟨g,cap,cur,hv,hb,hg,hn,hm,hs,ht⟩
 ·omega
 simp only [Value.slice.injEq] at hv
 obtain ⟨rfl,_,rfl⟩:=hv
 refine ⟨g,rfl,hb,(Array.getElem?_eq_some_iff.1 hg).1,by omega,hm,fun j hj => ?_⟩
 rw [← ht,List.getElem?_take_of_lt (by omega)]
 simp only [World.cell?,hg]
 simp
def thC (g:Th):List Value:=[.int .i64 g.msg,.int .i64 g.coef,.int .i64 g.bd.c,.int .i64 g.bd.n,.int .i64 g.bd.t,.int .i64 g.bd.f]
def thI (g:Th):Prop:=I64 g.msg∧I64 g.coef∧I64 g.bd.c∧I64 g.bd.n∧I64 g.bd.t∧I64 g.bd.f
theorem flat_get:∀ (l:List Th) (i:Nat) (hi:i<l.length) (j:Nat),j<6→(l.flatMap thC)[i*6+j]? = (thC l[i])[j]?
 | [],i,hi,_,_=>absurd hi (by simp)
 | x::xs,0,_,j,hj=>by
   rw [List.flatMap_cons,List.getElem?_append_left (by simp [thC];omega)]
   simp
 | x::xs,i+1,hi,j,hj=>by
   rw [List.flatMap_cons,List.getElem?_append_right (by simp [thC];omega),show (i+1)*6+j-(thC x).length=i*6+j by simp [thC];omega]
   exact flat_get xs i (by simpa using hi) j hj
def OwnTh (lo:Nat) (w:World) (v:Value) (l:List Th):Prop:=w.ownsRow lo 111 6 v l.length (l.flatMap thC)∧∀ g∈l,thI g
theorem OwnTh.nil (lo:Nat) (w:World):OwnTh lo w (.slice none 0 0) []:=⟨World.ownsRow_nil _ _ _ _,by simp⟩
variable {l:List Th}
theorem OwnTh.still (h:OwnTh lo w v l) (hb:Below w.heap.size w w'):OwnTh lo w' v l:=⟨ZdI h.1 hb,h.2⟩
theorem OwnTh.sl (h:OwnTh lo w v l):IsSl 6 ThEl lo w v l:=by
 obtain ⟨⟨hl,h2⟩,hI⟩:=h
 rcases h2 with ⟨rfl,h0⟩ | ⟨g,cap,cur,rfl,hb,hg,hn,hm,hc,ht⟩
 ·exact ⟨none,0,by rw [h0],by omega,by simp [maxLen],fun _=>rfl,.inl (List.eq_nil_of_length_eq_zero h0)⟩
 refine ⟨_,_,rfl,hn,hm,by simp,.inr ⟨g,0,rfl,hb,(Array.getElem?_eq_some_iff.1 hg).1,fun i hi=>⟨thC l[i],rfl,fun j hj => ?_,rfl,hI _ (List.getElem_mem hi)⟩⟩⟩
 have hcell:w.cell? ⟨g,0+i*6+j,none⟩=cur[i*6+j]? := by
  simp only [World.cell?,hg];simp
 rw [hcell,← Array.getElem?_toList,show cur.toList[i*6+j]? = (cur.toList.take (l.length*6))[i*6+j]? by rw [List.getElem?_take_of_lt (by omega)],ht]
 exact flat_get l i hi j hj
theorem elTh:ElT Tryz.prog 55 111 (.agg #[.int .i64 0,.int .i64 0,.int .i64 0,.int .i64 0,.int .i64 0,.int .i64 0]) 6 48:=⟨Tryz.underlying55,by kernel_rfl,rfl,by decide⟩
theorem ZcZ:(Tryz.prog.info? 111).map (·.size)=some 6:=by kernel_rfl
theorem Zcm {gs l0:List Th} (h:j<gs.length):(gs.take (j+1)).foldl addT l0=addT ((gs.take j).foldl addT l0) gs[j]:=by
 rw [List.take_succ_eq_append_getElem h,List.foldl_append];rfl
variable {rs:List Ru}
theorem Zcu (h:i<rs.length):diffG (rs.take (i+1))=rs[i].gz.foldl addT (diffG (rs.take i)):=by
 unfold diffG;rw [List.take_succ_eq_append_getElem h,List.foldl_append];rfl
theorem YI (h:IsSl 18 RuEl lo w v rs) (h8:rs.length≤8) (h2:∀ r∈rs,r.gz.length≤2) :
 Calls Tryz.prog 81 #[v] w fun e w'=>∃ v',e = .returned v'∧OwnTh w.heap.size w' v' (diffG rs)∧Below w.heap.size w w':=by
 have H:=Lib.hid h
 have H2:=Lib.hid h2
 rcases Ww h with ⟨rfl,a,c,rfl⟩ | ⟨b,off,c,rfl,hbw,_⟩
 ·clear h
  go_enter Tryz.func81,Tryz.ntmps81
  go_wp2_with fail
  refine wp_loop_rounds 1 ?_
  rw [rounds_succ]
  go_wp2_with fail
  go_ret
  exact ⟨_,rfl,OwnTh.nil _ _,Below.refl _ _⟩
 generalize hN:rs.length=n at h8
 have HN:=Lib.hid hN
 rw [hN] at H
 clear h h2 hN
 go_enter Tryz.func81,Tryz.ntmps81
 go_wp2_with fail
 go_loopw [3,10] (fun v u wr=>∃ (i:Nat) (a:Option Addr) (c:Nat) (l:List Th),i≤n∧u = .int .i64 i∧v = .slice a l.length c∧l=diffG (rs.take i)∧l.length≤2*i∧OwnTh w.heap.size wr (.slice a l.length c) l∧Below w.heap.size w wr) (fun _ u _=>n-(intOf u).toNat)
 case atStart=>exact ⟨0,none,0,[],Nat.zero_le _,rfl,rfl,rfl,by simp,OwnTh.nil _ _,Below.refl _ _⟩
 case round =>
  obtain ⟨i,a,ca,l,hi,rfl,rfl,hl,hlen,hO,hB⟩:=hrel
  have HO:=Lib.hid hO
  have HB:=Lib.hid hB
  have HLI:=Lib.hid hl
  clear hO hB hl
  by_cases h1:i<n
  ·have hix:i<rs.length:=by rw [HN.out];exact h1
   obtain ⟨b',off',cs,hab,_,_,hcl,hcc,hel⟩:=H.out.at i hix
   cases hab
   have HL:=Lib.hid hcl
   obtain ⟨-,-,-,-,-,pc⟩:=ZaO hel
   have PC:=Lib.hid pc
   have R1:=Lib.hid (rangeBelow (rangeOf hcl hcc) HB.out)
   obtain ⟨_,u7,_,_,_,_,_,_,hcs,_,k7,_⟩:=ZbA hel
   have p7:cs[7]? = some u7:=by rw [hcs];rfl
   obtain ⟨a7,c7,rfl⟩:=k7.shape
   have P7:=Lib.hid p7
   have hg2:rs[i].gz.length≤2:=H2.out _ (List.getElem_mem hix)
   have DS:=Lib.hid (Zcu hix)
   generalize rs[i].gz=gs at k7 P7 hg2 DS
   have K7:=Lib.hid k7
   clear hcl hcc hel pc hcs p7 k7
   go_upto_region 4 with (fail)
   refine wp_region_lit ?_
   refine wpList_step fun K hK => ?_
   go_simp
   refine hK _ _ ?_
   clear hK K
   refine ZaG Tryz.underlying57 Yr (by rfl) (.tmp 12) (by rfl) b (off+i*18) cs (by rfl) HL.out R1.out ?_
   refine wpList_step fun K hK => ?_
   go_simp
   refine hK _ _ ?_
   clear hK K
   refine KB (T:=57) Yr (by rfl) (.tmp 5) (.tmp 13) (by rfl) wr.heap.size cs (by rfl) (by rfl) HL.out (ZY _ _ rfl) (by rfl) PC.out (fun Z hZ hbl hsz _ => ?_)
   have ZB:=Lib.hid (show Below w.heap.size w Z from hbl _ _ HB.out.size (HB.out.trans ((Zd wr _).mono HB.out.size)))
   have ZR:=Lib.hid (show Below wr.heap.size wr Z from hbl _ _ (Nat.le_refl _) (Zd wr _))
   have z7:Z.cell? ⟨wr.heap.size,7,none⟩=some (.slice a7 gs.length c7):=ZH hZ 7 (by simpa using P7.out)
   have ZO:=Lib.hid (HO.out.still ZR.out)
   clear hZ hbl hsz ZR
   refine wpList_nil ?_
   simp only [Act.put]
   generalize hM:gs.length=m at z7 hg2
   have HM:=Lib.hid hM
   rw [hM] at K7
   clear hM
   go_wp2_with fail
   go_loopw [3,17] (fun v u wr'=>∃ (j:Nat) (a:Option Addr) (c:Nat) (l':List Th),j≤m∧u = .int .i64 j∧v = .slice a l'.length c∧l'=(gs.take j).foldl addT l∧l'.length≤l.length+j∧OwnTh w.heap.size wr' (.slice a l'.length c) l'∧Below w.heap.size w wr') (fun _ u _=>m-(intOf u).toNat)
   case atStart=>exact ⟨0,a,ca,l,Nat.zero_le _,rfl,rfl,rfl,Nat.le_refl _,ZO.out,ZB.out⟩
   case round =>
    obtain ⟨j,aj,cj,l',hj,rfl,rfl,hl',hlen',hOj,hBj⟩:=hrel
    have HOj:=Lib.hid hOj
    have HBj:=Lib.hid hBj
    have HLJ:=Lib.hid hl'
    clear hOj hBj hl'
    by_cases hjm:j<m
    ·have hjx:j<gs.length:=by rw [HM.out];exact hjm
     obtain ⟨bg,og,csg,hag,_,hbgw,hcl,hcc,hel⟩:=K7.out.at j hjx
     have hbg2:=hbgw
     cases hag
     obtain ⟨hel1,hI⟩:csg=thC gs[j]∧thI gs[j]:=hel
     have HI:=Lib.hid hI
     have RG:=Lib.hid (rangeBelow (rangeOf hcl hcc) HBj.out)
     have IS:=Lib.hid (Zcm (l0:=l) hjx)
     rw [hel1] at RG
     clear hel1 hcl hcc hI
     generalize gs[j]=x at RG HI IS
     go_upto_region 7 with (fail)
     refine wp_region_lit ?_
     refine wpList_step fun K hK => ?_
     go_simp
     refine hK _ _ ?_
     clear hK K
     refine ZaG Tryz.underlying111 ZcZ (by rfl) (.tmp 19) (by rfl) bg (og+j*6) (thC x) (by rfl) (by rfl) RG.out ?_
     refine wpList_step fun K hK => ?_
     go_simp
     refine hK _ _ ?_
     clear hK K
     obtain ⟨X,hX⟩:∃ X:World,X=wr:=⟨_,rfl⟩
     rw [← hX] at HOj HBj ⊢
     clear hX
     refine KB (T:=111) ZcZ (by rfl) (.tmp 7) (.tmp 20) (by rfl) X.heap.size (thC x) (by rfl) (by rfl) (by rfl) (ZY _ _ rfl) (by rfl) (by intro v hv;simp [thC] at hv;rcases hv with rfl | rfl | rfl | rfl | rfl | rfl<;>rfl) (fun Y hY hbl hsz _ => ?_)
     have YB:=Lib.hid (show Below w.heap.size w Y from hbl _ _ HBj.out.size (HBj.out.trans ((Zd X _).mono HBj.out.size)))
     have YR:=Lib.hid (show Below X.heap.size X Y from hbl _ _ (Nat.le_refl _) (Zd X _))
     have y0:Y.cell? ⟨X.heap.size,0,none⟩=some (.int .i64 x.msg):=ZH hY 0 (by rfl)
     have y1:Y.cell? ⟨X.heap.size,1,none⟩=some (.int .i64 x.coef):=ZH hY 1 (by rfl)
     have y2:Y.cell? ⟨X.heap.size,2,none⟩=some (.int .i64 x.bd.c):=ZH hY 2 (by rfl)
     have y3:Y.cell? ⟨X.heap.size,3,none⟩=some (.int .i64 x.bd.n):=ZH hY 3 (by rfl)
     have y4:Y.cell? ⟨X.heap.size,4,none⟩=some (.int .i64 x.bd.t):=ZH hY 4 (by rfl)
     have y5:Y.cell? ⟨X.heap.size,5,none⟩=some (.int .i64 x.bd.f):=ZH hY 5 (by rfl)
     have YO:=Lib.hid (HOj.out.still YR.out)
     have hYs:X.heap.size<Y.heap.size:=by rw [hsz];simp
     have HYS:=Lib.hid hYs
     clear hY hbl hsz YR RG
     refine wpList_nil ?_
     simp only [Act.put]
     by_cases hin:x∈l'
     ·have hd:decide (x∈l')=true:=decide_eq_true hin
      have HD:=Lib.hid hd
      have HADD:=Lib.hid (show addT l' x=l' from if_pos hin)
      clear hin hd
      go_wp2_with (go_at_call 111;(with_reducible refine (Zam x.msg x.coef x.bd.c x.bd.n x.bd.t x.bd.f YO.out.sl).mono ?_);rw [HD.out];rintro e w2 ⟨rfl,hb2⟩;have HB2:=Lib.hid hb2;clear hb2)
      go_roundw
      case rel=>exact ⟨j+1,aj,cj,l',by omega,by go_num,rfl,by rw [IS.out,← HLJ.out,HADD.out],by omega,YO.out.still HB2.out,Ze YB.out HB2.out⟩
      case measure=>simp [intOf];omega
     have hd:decide (x∈l')=false:=decide_eq_false hin
     have HD:=Lib.hid hd
     have HADD:=Lib.hid (show addT l' x=l'++[x] from if_neg hin)
     clear hin hd
     go_wp2_with (first | (go_at_call 111;(with_reducible refine (Zam x.msg x.coef x.bd.c x.bd.n x.bd.t x.bd.f YO.out.sl).mono ?_);rw [HD.out];rintro e w2 ⟨rfl,hb2⟩;have HB2:=Lib.hid hb2;have HO2:=Lib.hid (YO.out.still hb2);have h20:=keep1 y0 hb2;have h21:=keep1 y1 hb2;have h22:=keep1 y2 hb2;have h23:=keep1 y3 hb2;have h24:=keep1 y4 hb2;have h25:=keep1 y5 hb2;clear hb2) | (at_builtin;refine KJ elTh (by rfl) (.tmp 25) (.tmp 27) (by rfl) w.heap.size _ l'.length _ (thC x) w2.heap.size (by rfl) (by rfl) (by rfl) HO2.out.1 (by rfl) (by intro v hv;simp [thC] at hv;rcases hv with rfl | rfl | rfl | rfl | rfl | rfl<;>rfl) (by omega) (by unfold maxLen;omega) ((Ze YB.out HB2.out).size) (by rfl) ?_;intro g cap w3 hown hgrow hat hlo hlt hsz))
     go_roundw
     case rel =>
      refine ⟨j+1,some ⟨g,0,none⟩,cap,l'++[x],by omega,by go_num,by simp,by rw [IS.out,← HLJ.out,HADD.out],by simp;omega,⟨?_,?_⟩,?_⟩
      ·rw [List.length_append,List.flatMap_append];simpa using hown
      ·intro y hy
       rcases List.mem_append.1 hy with hy | hy
       ·exact HO2.out.2 y hy
       rw [List.mem_singleton.1 hy];exact HI.out
      exact (Ze YB.out HB2.out).grown hgrow (Ze YB.out HB2.out).size (ZbB HO2.out.1)
     case measure=>simp [intOf];omega
    obtain rfl:j=m:=by omega
    go_wp2_with fail
    go_roundw
    case rel =>
     have e2:l'=diffG (rs.take (i+1)):=by rw [HLJ.out,DS.out,List.take_of_length_le (by rw [HM.out];exact Nat.le_refl _),HLI.out]
     exact ⟨i+1,aj,cj,l',by omega,by go_num,rfl,e2,by omega,HOj.out,HBj.out⟩
    case measure=>simp [intOf];omega
  obtain rfl:i=n:=by omega
  go_wp2_with fail
  go_ret
  have e2:diffG (rs.take i)=diffG rs:=by rw [List.take_of_length_le (by rw [HN.out];exact Nat.le_refl _)]
  exact ⟨_,rfl,by rw [← e2,← HLI.out];exact HO.out,HB.out⟩
end Go.Proofs.YtdbehgbggaaipaaGreat
