import Derived.Test.YtdbehgbggaaipaaGreatGrpfljfcemf
import Derived.Test.YtdbehgbggaaipaaGreatGrplhdnihim
import Derived.Test.YtdbehgbggaaipaaGreatGrpiiicjbhn
import Derived.Test.YtdbehgbggaaipaaGreatGrppnomngln
import Derived.Test.YtdbehgbggaaipaaGreatGrpjdolihil
import Derived.Test.YtdbehgbggaaipaaGreatGrpdnjdmbnk
import Derived.Test.YtdbehgbggaaipaaGreatGrpodlhbjnj
import Derived.Test.YtdbehgbggaaipaaGreatGrpdmbijldf
import Derived.Test.YtdbehgbggaaipaaGreatGrplbpfbmck
import Derived.Test.YtdbehgbggaaipaaGreatGrpkeegmnpc
import Derived.Test.YtdbehgbggaaipaaGreatGrpkplpgadp
set_option linter.all false
namespace Go.Proofs.YtdbehgbggaaipaaGreat
open Go.RowKit Go.Deep
set_option maxRecDepth 100000
set_option maxHeartbeats 6400000
variable {J:World→Prop}
abbrev XAp4_h1 (x0:Fm) (x1:Int) (x2:Int) (x3:Int) (x4:Cf) (x5:Int) (x6:Int) (x7:Int):List (Nat × AV):=[(0,.agg (cFm x0)),(1,.agg (cSz x1 x2 x3)),(2,.agg (Rd.cCg x4)),(3,.agg [iv x5,iv x6,iv x7])]
variable {p:Fm}{n t f x y kp:Int}{c:Cf}
theorem Apply_err (HP:FmOk p) (HL:FamLen p) (HC:Rd.CgOk c) (hz:¬ (Rd.vcE p n t f c)=0):Ctr Tryz.prog J 9 [.agg (cFm p),.agg (cSz n t f),.agg (Rd.cCg c),.agg [iv x,iv y,iv kp]] (.tup [.agg (Rd.cCg Ap.zC),iv (Rd.vcE p n t f c)]):=by
 refine Zm Tryz.func9 rfl (pN (Zh (ZQ p)) (pN (Zh (Z0 n t f)) (pN (Zh (Rd.plain_cg c)) (pN (Zh (pN (.v _) (pN (.v _) (pN (.v _) pZ)))) pZ)))) (n:=39) rfl (by simp) (fun w0 => ?_)
 refine kW 39 [] (XAp4_h1 p n t f c x y kp) (jB (oA (ZA (X := .agg (cFm p)) (.tmp 0) rfl rfl rfl) I0 (oA (ZA (X := .agg (cSz n t f)) (.tmp 1) rfl rfl rfl) I0 (oA (ZA (X := .agg (Rd.cCg c)) (.tmp 2) rfl rfl rfl) I0 (oA (ZA (X := .agg [iv x,iv y,iv kp]) (.tmp 3) rfl rfl rfl) I0 (oZ 1 Z31 (oS (iv 0) (jD (Za (oA (Zk (z:=10) (.tmp 4) rfl U27 rfl (by kernel_rfl) rfl rfl) I0 (oA (Zk (z:=3) (.tmp 5) rfl U29 rfl (by kernel_rfl) rfl rfl) I0 (oA (Zk (z:=6) (.tmp 6) rfl U31 rfl (by kernel_rfl) rfl rfl) I0 (oK (open_no HP HC hz) [.agg (cFm p),.agg (cSz n t f),.agg (Rd.cCg c)] rfl rfl (oS (.tup [.fr (.any),.fr (.agg (Rd.cfZ false (Rd.shI p.top (Ns.shT p.top (Ns.cntE p n f)) c.sh) c)),iv (Rd.vcE p n t f c)]) (oW (oS (.fr (.agg (Rd.cfZ false (Rd.shI p.top (Ns.shT p.top (Ns.cntE p n f)) c.sh) c))) (oW (oZ 2 Z71 (oS (.fr (.any)) (Yz rfl (sB 16 11 (.tmp 19) (.agg [iv (Rd.zz false (Rd.shI p.top (Ns.shT p.top (Ns.cntE p n f)) c.sh)),iv (Rd.zz false (c.st.getD 0 0)),iv (Rd.zz false (c.st.getD 1 0)),iv (Rd.zz false (c.st.getD 2 0)),iv (Rd.zz false (c.st.getD 3 0)),iv (Rd.zz false (c.st.getD 4 0)),iv (Rd.zz false (c.st.getD 5 0)),iv (Rd.zz false (c.st.getD 6 0)),iv (Rd.zz false (c.st.getD 7 0)),iv (Rd.zz false (c.se.getD 0 0)),iv (Rd.zz false (c.se.getD 1 0)),iv (Rd.zz false (c.se.getD 2 0)),iv (Rd.zz false (c.fa.getD 0 0)),iv (Rd.zz false (c.fa.getD 1 0)),iv (Rd.zz false (c.fa.getD 2 0)),iv (Rd.zz false c.val)])) ⟨I0,.inr (.inr (.inl ⟨_,rfl,rfl⟩)),T0⟩ ⟨rfl,T0⟩ rfl ?_))))))))))))))))))))
 refine oS (iv (Rd.vcE p n t f c)) (jD (jB (oS (iv (Rd.vcE p n t f c)) (oC (Yq rfl (dF' hz)) I0 I0 (jG (Yz rfl (YV [] #[.slice none 0 0,.slice none 0 0,.int .i64 0,.slice none 0 0,.slice none 0 0,.int .i64 0] rfl rfl (by kernel_rfl) rfl) T0 T0 T0 (oW (oY (oS (iv (Rd.vcE p n t f c)) (kN 39 [(1,.box 31 [nz,nz,iv 0,nz,nz,iv 0]),(2,.box 71 [iv (Rd.zz false (Rd.shI p.top (Ns.shT p.top (Ns.cntE p n f)) c.sh)),iv (Rd.zz false (c.st.getD 0 0)),iv (Rd.zz false (c.st.getD 1 0)),iv (Rd.zz false (c.st.getD 2 0)),iv (Rd.zz false (c.st.getD 3 0)),iv (Rd.zz false (c.st.getD 4 0)),iv (Rd.zz false (c.st.getD 5 0)),iv (Rd.zz false (c.st.getD 6 0)),iv (Rd.zz false (c.st.getD 7 0)),iv (Rd.zz false (c.se.getD 0 0)),iv (Rd.zz false (c.se.getD 1 0)),iv (Rd.zz false (c.se.getD 2 0)),iv (Rd.zz false (c.fa.getD 0 0)),iv (Rd.zz false (c.fa.getD 1 0)),iv (Rd.zz false (c.fa.getD 2 0)),iv (Rd.zz false c.val)])] [(7,.el ([iv x,iv y,iv kp]) 0),(8,bx 1),(9,iv (Rd.vcE p n t f c)),(10,.fr (.any)),(11,bx 2),(12,iv (Rd.vcE p n t f c))] (Ze (jN ?_))))))))))))
 refine Z9 (ZS 1 0 3 true 3 1 rfl rfl rfl rfl) ?_
 refine Z9 (ZS 1 1 4 true 3 1 rfl rfl rfl rfl) ?_
 refine Z9 (ZS 1 3 5 true 3 1 rfl rfl rfl rfl) ?_
 refine Z9 (ZS 1 4 6 true 3 1 rfl rfl rfl rfl) ?_
 refine ZW Tryz.results9 (.cellS rfl rfl U31 rfl (z:=6) (by kernel_rfl) rfl (by decide)) (.tmp rfl) ?_
 exact rfl
abbrev Zfa (x0:Fm) (x1:Int) (x2:Int) (x3:Cf):List (Nat × ABlk):=[(1,.box 31 [nz,nz,iv 0,nz,nz,iv 0]),(2,.box 71 (En.cfV (Rd.shI x0.top (Ns.shT x0.top (Ns.cntE x0 x1 x2)) x3.sh) x3))]
abbrev XAp4_h3:List (Nat × ABlk):=[(1,.box 31 [nz,nz,iv 0,nz,nz,iv 0]),(2,.box 71 [iv 0,iv 0,iv 0,iv 0,iv 0,iv 0,iv 0,iv 0,iv 0,iv 0,iv 0,iv 0,iv 0,iv 0,iv 0,iv 0])]
theorem Apply_no (HP:FmOk p) (HL:FamLen p) (HC:Rd.CgOk c) (hz:(Rd.vcE p n t f c)=0) (he:En.enB p n t f c (En.hdJ p f c p.msgs.length) x y kp=false):Ctr Tryz.prog J 9 [.agg (cFm p),.agg (cSz n t f),.agg (Rd.cCg c),.agg [iv x,iv y,iv kp]] (.tup [.agg (Rd.cCg Ap.zC),iv 9]):=by
 obtain ⟨hs,hx⟩:=En.vc_ok hz
 have hc:=En.cf_in hx
 obtain ⟨hv,ha,h8⟩:=Ns.sys_ok hs
 have hai:=Ns.adm_in ha
 have l8:=En.cf_len hc hai h8
 have hsz:=En.val_sizes hv
 refine Zm Tryz.func9 rfl (pN (Zh (ZQ p)) (pN (Zh (Z0 n t f)) (pN (Zh (Rd.plain_cg c)) (pN (Zh (pN (.v _) (pN (.v _) (pN (.v _) pZ)))) pZ)))) (n:=39) rfl (by simp) (fun w0 => ?_)
 refine kW 39 [] (XAp4_h1 p n t f c x y kp) (jB (oA (ZA (X := .agg (cFm p)) (.tmp 0) rfl rfl rfl) I0 (oA (ZA (X := .agg (cSz n t f)) (.tmp 1) rfl rfl rfl) I0 (oA (ZA (X := .agg (Rd.cCg c)) (.tmp 2) rfl rfl rfl) I0 (oA (ZA (X := .agg [iv x,iv y,iv kp]) (.tmp 3) rfl rfl rfl) I0 (oZ 1 Z31 (oS (iv 0) (jD (Za (oA (Zk (z:=10) (.tmp 4) rfl U27 rfl (by kernel_rfl) rfl rfl) I0 (oA (Zk (z:=3) (.tmp 5) rfl U29 rfl (by kernel_rfl) rfl rfl) I0 (oA (Zk (z:=6) (.tmp 6) rfl U31 rfl (by kernel_rfl) rfl rfl) I0 (Yz rfl (KS (c := .func 22) (xs := #[.tmp 14,.tmp 15,.tmp 16]) (open_V HP HC hs hx) rfl (by kernel_rfl) rfl (Xs:=[.agg (cFm p),.agg (cSz n t f),.agg (Rd.cCg c)]) rfl rfl) ⟨I0,I0,I0,I0,T0⟩ T0 T0 (oS (.tup [.el (En.sysP p n t f) 0,.agg (En.cfV (Rd.shI p.top (Ns.shT p.top (Ns.cntE p n f)) c.sh) c),iv 0]) (oW (oW (oW (oZ 2 Z71 (oS (.el (En.sysP p n t f) 0) (oY ?_))))))))))))))))))))
 refine oS (iv 0) (kN 39 (Zfa p n f c) [(7,.el ([iv x,iv y,iv kp]) 0),(8,bx 1),(9,iv 0),(10,.el (En.sysP p n t f) 0),(11,bx 2),(12,iv 0)] (jC (jB (oS (iv 0) (oC (Yq (r:=false) rfl (by decide)) I0 I0 (jF (jB (oW (oW (oA (Zk (z:=3) (.tmp 7) rfl U35 rfl (by kernel_rfl) rfl rfl) I0 (oK (apply_no HL hc hv l8 ⟨by omega,by omega⟩ he) [.el (En.sysP p n t f) 0,.agg (En.cfV (Rd.shI p.top (Ns.shT p.top (Ns.cntE p n f)) c.sh) c),.agg ([iv x,iv y,iv kp])] rfl rfl (oS (.tup [.fr (.agg Ap.z16),iv 9]) (oS (.fr (.agg Ap.z16)) (oW (Yz rfl (sB 16 11 (.tmp 30) (.agg [iv 0,iv 0,iv 0,iv 0,iv 0,iv 0,iv 0,iv 0,iv 0,iv 0,iv 0,iv 0,iv 0,iv 0,iv 0,iv 0])) ⟨I0,.inr (.inr (.inl ⟨_,rfl,rfl⟩)),T0⟩ ⟨rfl,T0⟩ rfl (oS (iv 9) ?_))))))))))))))))
 refine jD (jB (oS (iv 9) (oC (Yq (r:=true) rfl (by decide)) I0 I0 (jG (Yz rfl (YV [] #[.slice none 0 0,.slice none 0 0,.int .i64 0,.slice none 0 0,.slice none 0 0,.int .i64 0] rfl rfl (by kernel_rfl) rfl) T0 T0 T0 (oW (oY (oS (iv 9) (kN 39 XAp4_h3 [(8,bx 1),(9,iv 9),(10,.el (En.sysP p n t f) 0),(11,bx 2)] (Ze (jN ?_)))))))))))
 refine Z9 (ZS 1 0 3 true 3 1 rfl rfl rfl rfl) ?_
 refine Z9 (ZS 1 1 4 true 3 1 rfl rfl rfl rfl) ?_
 refine Z9 (ZS 1 3 5 true 3 1 rfl rfl rfl rfl) ?_
 refine Z9 (ZS 1 4 6 true 3 1 rfl rfl rfl rfl) ?_
 refine ZW Tryz.results9 (.cellS rfl rfl U31 rfl (z:=6) (by kernel_rfl) rfl (by decide)) (.tmp rfl) ?_
 exact rfl
abbrev XAp4_h4 (x0:Fm) (x1:Int) (x2:Int) (x3:Int) (x4:Cf) (x5:Nat) (x6:Nat) (x7:Int):List (Nat × AV):=[(0,.agg (cFm x0)),(1,.agg (cSz x1 x2 x3)),(2,.agg (Rd.cCg x4)),(3,.agg [iv x5,iv x6,iv x7])]
abbrev XAp4_h5 (x0:Nat) (x1:Nat) (x2:Int) (x3:Fm) (x4:Int) (x5:Int) (x6:Int):List (Nat × AV):=[(7,.el ([iv x0,iv x1,iv x2]) 0),(8,bx 1),(9,iv 0),(10,.el (En.sysP x3 x4 x5 x6) 0),(11,bx 2),(12,iv 0)]
variable {r i:Nat}
theorem Apply_lg (HP:FmOk p) (HL:FamLen p) (HC:Rd.CgOk c) (hz:(Rd.vcE p n t f c)=0) (hr:r<p.rz.length) (hi:i<c.st.length) (he:En.enB p n t f c (En.hdJ p f c p.msgs.length) (r:Int) (i:Int) kp=true) (hl:¬ (Rd.belB (Ap.af (n-f) c p.rz[r] i kp).se 1048577=true∧Rd.belB (Ap.af (n-f) c p.rz[r] i kp).fa 1048577=true)):Ctr Tryz.prog J 9 [.agg (cFm p),.agg (cSz n t f),.agg (Rd.cCg c),.agg [iv r,iv i,iv kp]] (.tup [.agg (Rd.cCg Ap.zC),iv 4]):=by
 obtain ⟨hs,hx⟩:=En.vc_ok hz
 have hc:=En.cf_in hx
 obtain ⟨hv,ha,h8⟩:=Ns.sys_ok hs
 have hai:=Ns.adm_in ha
 have l8:=En.cf_len hc hai h8
 have hsz:=En.val_sizes hv
 refine Zm Tryz.func9 rfl (pN (Zh (ZQ p)) (pN (Zh (Z0 n t f)) (pN (Zh (Rd.plain_cg c)) (pN (Zh (pN (.v _) (pN (.v _) (pN (.v _) pZ)))) pZ)))) (n:=39) rfl (by simp) (fun w0 => ?_)
 refine kW 39 [] (XAp4_h4 p n t f c r i kp) (jB (oA (ZA (X := .agg (cFm p)) (.tmp 0) rfl rfl rfl) I0 (oA (ZA (X := .agg (cSz n t f)) (.tmp 1) rfl rfl rfl) I0 (oA (ZA (X := .agg (Rd.cCg c)) (.tmp 2) rfl rfl rfl) I0 (oA (ZA (X := .agg [iv r,iv i,iv kp]) (.tmp 3) rfl rfl rfl) I0 (oZ 1 Z31 (oS (iv 0) (jD (Za (oA (Zk (z:=10) (.tmp 4) rfl U27 rfl (by kernel_rfl) rfl rfl) I0 (oA (Zk (z:=3) (.tmp 5) rfl U29 rfl (by kernel_rfl) rfl rfl) I0 (oA (Zk (z:=6) (.tmp 6) rfl U31 rfl (by kernel_rfl) rfl rfl) I0 (Yz rfl (KS (c := .func 22) (xs := #[.tmp 14,.tmp 15,.tmp 16]) (open_V HP HC hs hx) rfl (by kernel_rfl) rfl (Xs:=[.agg (cFm p),.agg (cSz n t f),.agg (Rd.cCg c)]) rfl rfl) ⟨I0,I0,I0,I0,T0⟩ T0 T0 (oS (.tup [.el (En.sysP p n t f) 0,.agg (En.cfV (Rd.shI p.top (Ns.shT p.top (Ns.cntE p n f)) c.sh) c),iv 0]) (oW (oW (oW (oZ 2 Z71 (oS (.el (En.sysP p n t f) 0) (oY ?_))))))))))))))))))))
 refine oS (iv 0) (kN 39 (Zfa p n f c) (XAp4_h5 r i kp p n t f) (jC (jB (oS (iv 0) (oC (Yq (r:=false) rfl (by decide)) I0 I0 (jF (jB (oW (oW (oA (Zk (z:=3) (.tmp 7) rfl U35 rfl (by kernel_rfl) rfl rfl) I0 (oK (apply_lg HL hc hv l8 ⟨by omega,by omega⟩ hr hi he hl) [.el (En.sysP p n t f) 0,.agg (En.cfV (Rd.shI p.top (Ns.shT p.top (Ns.cntE p n f)) c.sh) c),.agg ([iv r,iv i,iv kp])] rfl rfl (oS (.tup [.fr (.agg Ap.z16),iv 4]) (oS (.fr (.agg Ap.z16)) (oW (Yz rfl (sB 16 11 (.tmp 30) (.agg [iv 0,iv 0,iv 0,iv 0,iv 0,iv 0,iv 0,iv 0,iv 0,iv 0,iv 0,iv 0,iv 0,iv 0,iv 0,iv 0])) ⟨I0,.inr (.inr (.inl ⟨_,rfl,rfl⟩)),T0⟩ ⟨rfl,T0⟩ rfl (oS (iv 4) ?_))))))))))))))))
 refine jD (jB (oS (iv 4) (oC (Yq (r:=true) rfl (by decide)) I0 I0 (jG (Yz rfl (YV [] #[.slice none 0 0,.slice none 0 0,.int .i64 0,.slice none 0 0,.slice none 0 0,.int .i64 0] rfl rfl (by kernel_rfl) rfl) T0 T0 T0 (oW (oY (oS (iv 4) (kN 39 XAp4_h3 [(8,bx 1),(9,iv 4),(10,.el (En.sysP p n t f) 0),(11,bx 2)] (Ze (jN ?_)))))))))))
 refine Z9 (ZS 1 0 3 true 3 1 rfl rfl rfl rfl) ?_
 refine Z9 (ZS 1 1 4 true 3 1 rfl rfl rfl rfl) ?_
 refine Z9 (ZS 1 3 5 true 3 1 rfl rfl rfl rfl) ?_
 refine Z9 (ZS 1 4 6 true 3 1 rfl rfl rfl rfl) ?_
 refine ZW Tryz.results9 (.cellS rfl rfl U31 rfl (z:=6) (by kernel_rfl) rfl (by decide)) (.tmp rfl) ?_
 exact rfl
theorem Apply_ok (HP:FmOk p) (HL:FamLen p) (HC:Rd.CgOk c) (hz:(Rd.vcE p n t f c)=0) (hr:r<p.rz.length) (hi:i<c.st.length) (he:En.enB p n t f c (En.hdJ p f c p.msgs.length) (r:Int) (i:Int) kp=true) (hl:Rd.belB (Ap.af (n-f) c p.rz[r] i kp).se 1048577=true∧Rd.belB (Ap.af (n-f) c p.rz[r] i kp).fa 1048577=true):Ctr Tryz.prog J 9 [.agg (cFm p),.agg (cSz n t f),.agg (Rd.cCg c),.agg [iv r,iv i,iv kp]] (.tup [.agg (Rd.cCg (Ap.af (n-f) c p.rz[r] i kp)),iv 0]):=by
 obtain ⟨hs,hx⟩:=En.vc_ok hz
 have hc:=En.cf_in hx
 obtain ⟨hv,ha,h8⟩:=Ns.sys_ok hs
 have hai:=Ns.adm_in ha
 have l8:=En.cf_len hc hai h8
 have hsz:=En.val_sizes hv
 refine Zm Tryz.func9 rfl (pN (Zh (ZQ p)) (pN (Zh (Z0 n t f)) (pN (Zh (Rd.plain_cg c)) (pN (Zh (pN (.v _) (pN (.v _) (pN (.v _) pZ)))) pZ)))) (n:=39) rfl (by simp) (fun w0 => ?_)
 refine kW 39 [] (XAp4_h4 p n t f c r i kp) (jB (oA (ZA (X := .agg (cFm p)) (.tmp 0) rfl rfl rfl) I0 (oA (ZA (X := .agg (cSz n t f)) (.tmp 1) rfl rfl rfl) I0 (oA (ZA (X := .agg (Rd.cCg c)) (.tmp 2) rfl rfl rfl) I0 (oA (ZA (X := .agg [iv r,iv i,iv kp]) (.tmp 3) rfl rfl rfl) I0 (oZ 1 Z31 (oS (iv 0) (jD (Za (oA (Zk (z:=10) (.tmp 4) rfl U27 rfl (by kernel_rfl) rfl rfl) I0 (oA (Zk (z:=3) (.tmp 5) rfl U29 rfl (by kernel_rfl) rfl rfl) I0 (oA (Zk (z:=6) (.tmp 6) rfl U31 rfl (by kernel_rfl) rfl rfl) I0 (Yz rfl (KS (c := .func 22) (xs := #[.tmp 14,.tmp 15,.tmp 16]) (open_V HP HC hs hx) rfl (by kernel_rfl) rfl (Xs:=[.agg (cFm p),.agg (cSz n t f),.agg (Rd.cCg c)]) rfl rfl) ⟨I0,I0,I0,I0,T0⟩ T0 T0 (oS (.tup [.el (En.sysP p n t f) 0,.agg (En.cfV (Rd.shI p.top (Ns.shT p.top (Ns.cntE p n f)) c.sh) c),iv 0]) (oW (oW (oW (oZ 2 Z71 (oS (.el (En.sysP p n t f) 0) (oY ?_))))))))))))))))))))
 refine oS (iv 0) (kN 39 (Zfa p n f c) (XAp4_h5 r i kp p n t f) (jC (jB (oS (iv 0) (oC (Yq (r:=false) rfl (by decide)) I0 I0 (jF (jB (oW (oW (oA (Zk (z:=3) (.tmp 7) rfl U35 rfl (by kernel_rfl) rfl rfl) I0 (oK (apply_ok HL hc hv l8 ⟨by omega,by omega⟩ hr hi he hl) [.el (En.sysP p n t f) 0,.agg (En.cfV (Rd.shI p.top (Ns.shT p.top (Ns.cntE p n f)) c.sh) c),.agg ([iv r,iv i,iv kp])] rfl rfl (oS (.tup [.fr (.agg (En.cfV (Rd.shI p.top (Ns.shT p.top (Ns.cntE p n f)) c.sh) (Ap.af (n-f) c p.rz[r] i kp))),iv 0]) (oS (.fr (.agg (En.cfV (Rd.shI p.top (Ns.shT p.top (Ns.cntE p n f)) c.sh) (Ap.af (n-f) c p.rz[r] i kp)))) (oW (Yz rfl (sB 16 11 (.tmp 30) (.agg [iv (Rd.shI p.top (Ns.shT p.top (Ns.cntE p n f)) c.sh),iv ((Ap.af (n-f) c p.rz[r] i kp).st.getD 0 0),iv ((Ap.af (n-f) c p.rz[r] i kp).st.getD 1 0),iv ((Ap.af (n-f) c p.rz[r] i kp).st.getD 2 0),iv ((Ap.af (n-f) c p.rz[r] i kp).st.getD 3 0),iv ((Ap.af (n-f) c p.rz[r] i kp).st.getD 4 0),iv ((Ap.af (n-f) c p.rz[r] i kp).st.getD 5 0),iv ((Ap.af (n-f) c p.rz[r] i kp).st.getD 6 0),iv ((Ap.af (n-f) c p.rz[r] i kp).st.getD 7 0),iv ((Ap.af (n-f) c p.rz[r] i kp).se.getD 0 0),iv ((Ap.af (n-f) c p.rz[r] i kp).se.getD 1 0),iv ((Ap.af (n-f) c p.rz[r] i kp).se.getD 2 0),iv ((Ap.af (n-f) c p.rz[r] i kp).fa.getD 0 0),iv ((Ap.af (n-f) c p.rz[r] i kp).fa.getD 1 0),iv ((Ap.af (n-f) c p.rz[r] i kp).fa.getD 2 0),iv ((Ap.af (n-f) c p.rz[r] i kp).val)])) ⟨I0,.inr (.inr (.inl ⟨_,rfl,rfl⟩)),T0⟩ ⟨rfl,T0⟩ rfl (oS (iv 0) ?_))))))))))))))))
 refine jD (jB (oS (iv 0) (oC (Yq (r:=false) rfl (by decide)) I0 I0 (jF (jB (oW (oW (oK (write_c (Ap.af_ok HL hc hv HC l8 hr hi (kp:=kp)) (by show _=(((Ap.stA c p.rz[r] i kp).length:Nat):Int);rw [Ap.stA_len];exact hc.ln.symm) (by show (Ap.stA c p.rz[r] i kp).length≤8;rw [Ap.stA_len];exact l8) hsz.2.2.1 (by show (Ap.seA _ _ _ _ _).length=_;rw [Ap.seA_len];exact hc.ls) (by show (Ap.faA _ _ _ _ _).length=_;rw [Ap.faA_len];exact hc.lf) hc.co (by have h4:=Ap.shI_T hc hv;exact h4) (by have h4:=Ap.sh_no hc;exact h4)) [.el (En.sysP p n t f) 0,.agg [iv (Rd.shI p.top (Ns.shT p.top (Ns.cntE p n f)) c.sh),iv ((Ap.af (n-f) c p.rz[r] i kp).st.getD 0 0),iv ((Ap.af (n-f) c p.rz[r] i kp).st.getD 1 0),iv ((Ap.af (n-f) c p.rz[r] i kp).st.getD 2 0),iv ((Ap.af (n-f) c p.rz[r] i kp).st.getD 3 0),iv ((Ap.af (n-f) c p.rz[r] i kp).st.getD 4 0),iv ((Ap.af (n-f) c p.rz[r] i kp).st.getD 5 0),iv ((Ap.af (n-f) c p.rz[r] i kp).st.getD 6 0),iv ((Ap.af (n-f) c p.rz[r] i kp).st.getD 7 0),iv ((Ap.af (n-f) c p.rz[r] i kp).se.getD 0 0),iv ((Ap.af (n-f) c p.rz[r] i kp).se.getD 1 0),iv ((Ap.af (n-f) c p.rz[r] i kp).se.getD 2 0),iv ((Ap.af (n-f) c p.rz[r] i kp).fa.getD 0 0),iv ((Ap.af (n-f) c p.rz[r] i kp).fa.getD 1 0),iv ((Ap.af (n-f) c p.rz[r] i kp).fa.getD 2 0),iv ((Ap.af (n-f) c p.rz[r] i kp).val)]] rfl rfl (Yz rfl (sB 6 8 (.tmp 38) (.agg [.fr (Zb ((Ap.af (n-f) c p.rz[r] i kp).sh)),.fr (Zb ((Ap.af (n-f) c p.rz[r] i kp).st)),iv ((Ap.af (n-f) c p.rz[r] i kp).cor),.fr (Zb ((Ap.af (n-f) c p.rz[r] i kp).se)),.fr (Zb ((Ap.af (n-f) c p.rz[r] i kp).fa)),iv ((Ap.af (n-f) c p.rz[r] i kp).val)])) ⟨I0,.inr (.inr (.inl ⟨_,rfl,rfl⟩)),T0⟩ ⟨rfl,T0⟩ rfl (oS (iv 0) (jE ?_)))))))))))
 refine ZW Tryz.results9 (.cellS rfl rfl U31 rfl (z:=6) (by kernel_rfl) rfl (by decide)) (.tmp rfl) ?_
 exact rfl
theorem Apply_c (HP:FmOk p) (HL:FamLen p) (HC:Rd.CgOk c) :Ctr Tryz.prog J 9 [.agg (cFm p),.agg (cSz n t f),.agg (Rd.cCg c),.agg [iv x,iv y,iv kp]] (.tup [.agg (Rd.cCg (Ap.apC p n t f c x y kp)),iv (Ap.apE p n t f c x y kp)]):=by
 by_cases hz:(Rd.vcE p n t f c)=0
 ·cases he:En.enB p n t f c (En.hdJ p f c p.msgs.length) x y kp with
  | false =>
    rw [Ap.apC_no hz he,Ap.apE_no hz he]
    exact Apply_no HP HL HC hz he
  | true =>
    obtain ⟨r,i,hr,hi,rfl,rfl⟩:=Ap.en_at he
    by_cases hl:Rd.belB (Ap.af (n-f) c p.rz[r] i kp).se 1048577=true∧Rd.belB (Ap.af (n-f) c p.rz[r] i kp).fa 1048577=true
    ·rw [Ap.apC_ok hz he hr hl,Ap.apE_ok hz he hr hl]
     exact Apply_ok HP HL HC hz hr hi he hl
    rw [Ap.apC_lg hz he hr hl,Ap.apE_lg hz he hr hl]
    exact Apply_lg HP HL HC hz hr hi he hl
 rw [Ap.apC_err hz,Ap.apE_err hz]
 exact Apply_err HP HL HC hz
set_option maxHeartbeats 12800000
set_option maxRecDepth 100000 in
theorem write_o2 {sx:Int} (ok:Rd.CgOk c) (hn:(Ns.cntE p n f)=(c.st.length:Int)) (l8:c.st.length≤8) (h3:p.msgs.length≤3) (hls:c.se.length=p.msgs.length) (hlf:c.fa.length=p.msgs.length) (hco:c.cor=(n-f)) (hsx:p.top=4→0≤sx∧sx<(((Ns.shT p.top (Ns.cntE p n f)).length:Nat):Int)∧(Ns.shT p.top (Ns.cntE p n f))[sx.toNat]? = some c.sh) (hs0:¬ p.top=4→c.sh=[]) (k k2:Nat) (hkk:k≠k2):CtrO2 Tryz.prog J 24 [.el (En.sysP p n t f) 0,.agg (En.cfV sx c)] k (.row true 3 1 c.st.length (c.st.map iv)) k2 (.row true 3 1 c.se.length (c.se.map iv)) (.agg [.fr (Zb c.sh),.own k,iv c.cor,.own k2,.fr (Zb c.fa),iv c.val]):=by
 refine KY Tryz.func24 rfl (pN (show Plain (.el (En.sysP p n t f) 0) from .el (ZN (En.plain_sysP p n t f))) (pN (Zh (En.plain_cfV _ c)) pZ)) (n:=55) rfl (by simp) (fun w0 => ?_)
 refine kW 55 [] [(0,.el (En.sysP p n t f) 0),(1,.agg (En.cfV sx c))] (jB (oA (ZA (X := .agg (En.cfV sx c)) (.tmp 1) rfl rfl rfl) I0 (oZ 1 Z31 (jD ?_))))
 refine tD (dS (.el (En.cfV sx c) 1) (dW (dW (dW (dS (iv (Ns.cntE p n f)) (dC (YH (n:=c.st.length) (off:=1) (ds:=(c.st.map iv)) (.tmp 6) (.tmp 10) rfl U67 (by kernel_rfl) (by omega) (by kernel_rfl) (by unfold maxLen;omega) (by show _≤16;omega) (En.cfV_row l8) hn) I0 I0 (dR (Zaa (c := .func 37) (xs := #[.tmp 11]) [] (Clone_o ok.st (Nat.le_trans ok.lst (by decide)) 2) rfl (by kernel_rfl) rfl (Xs:=[Zb c.st]) rfl rfl rfl) ⟨I0,I0,T0⟩ T0 rfl (dW (dW (dW (dS (iv (n-f)) (dS (.el (En.cfV sx c) 9) (dW (dW (dW (dW (dW (dS (iv p.msgs.length) (dC (YH (n:=c.se.length) (off:=9) (ds:=(c.se.map iv)) (.tmp 17) (.tmp 23) rfl U69 (by kernel_rfl) (by omega) (by kernel_rfl) (by unfold maxLen;omega) (by show _≤16;omega) (Ap.cfV_rowSe (by omega)) (by omega)) I0 I0 (dR (Zaa (c := .func 37) (xs := #[.tmp 24]) [] (Clone_o ok.se (Nat.le_trans ok.lse (by decide)) 3) rfl (by kernel_rfl) rfl (Xs:=[Zb c.se]) rfl rfl rfl) ⟨I0,I0,T0⟩ T0 rfl (dS (.el (En.cfV sx c) 12) (dW (dW (dW (dW (dW (dS (iv p.msgs.length) (dC (YH (n:=c.fa.length) (off:=12) (ds:=(c.fa.map iv)) (.tmp 26) (.tmp 32) rfl U69 (by kernel_rfl) (by omega) (by kernel_rfl) (by unfold maxLen;omega) (by show _≤16;omega) (Ap.cfV_rowFa (by omega)) (by omega)) I0 I0 (dk (ZaY ok.fa (Nat.le_trans ok.lfa (by decide))) [Zb c.fa] rfl rfl (dW (dS (iv c.val) (dR (Zbu [1,2,3,4,5] [.tmp 12,.tmp 16,.tmp 25,.tmp 34,.tmp 36] [.own 2,iv (n-f),.own 3,.fr (Zb c.fa),iv c.val] [.inl (.slice none 0 0),.inr 0,.inr 1,.inr 2,.inr 3,.inr 4] rfl rfl rfl rfl rfl (fun _=>by kernel_rfl) rfl (ds:=[nz,.own 2,iv (n-f),.own 3,.fr (Zb c.fa),iv c.val]) rfl) ⟨I0,I0,I0,I0,I0,T0⟩ T0 T0 (dz 4 Z31 (dY (eD ?_)))))))))))))))))))))))))))))))))))
 refine kW 55 [(1,.box 31 [nz,nz,iv 0,nz,nz,iv 0]),(2,.row true 3 1 c.st.length (c.st.map iv)),(3,.row true 3 1 c.se.length (c.se.map iv)),(4,.box 31 [nz,.own 2,iv (n-f),.own 3,.fr (Zb c.fa),iv c.val])] [(0,.el (En.sysP p n t f) 0),(3,.el (En.cfV sx c) 0),(4,bx 1),(5,bx 4)] (jC (Zl ?_))
 by_cases hs1:0<(((Ns.shT p.top (Ns.cntE p n f)).length:Nat):Int)
 obtain ⟨hx0,hx1,hx2⟩:=hsx (Ap.shT_top hs1)
 refine Za (oW (oW (oW (oW (oW (og (dT hs1) (jH ?_)))))))
 refine tD (dW (dW (dW (dS (slA 1 cLi (Ns.shT p.top (Ns.cntE p n f))) (dW (dS (iv sx) (dC (xS (sx.toNat*1) 47 49 U61) I0 I0 (dA (lE (Zb c.sh) 50 U24 (Ap.sh_at hx2)) I0 (dk (ZaY ok.sh (Nat.le_trans ok.lsh (by decide))) [Zb c.sh] rfl rfl (dW (dY (eD ?_))))))))))))
 refine kW 55 [(1,.box 31 [nz,nz,iv 0,nz,nz,iv 0]),(2,.row true 3 1 c.st.length (c.st.map iv)),(3,.row true 3 1 c.se.length (c.se.map iv)),(4,.box 31 [.fr (Zb c.sh),.own 2,iv (n-f),.own 3,.fr (Zb c.fa),iv c.val])] [(4,bx 1),(5,bx 4)] (jC (Za (oW (oY (kN 55 [(1,.box 31 [.fr (Zb c.sh),.own 2,iv (n-f),.own 3,.fr (Zb c.fa),iv c.val]),(2,.row true 3 1 c.st.length (c.st.map iv)),(3,.row true 3 1 c.se.length (c.se.map iv))] [(4,bx 1)] (Ze (ZV ?_)))))))
 rw [← hco]
 exact Zaw 2 3 Tryz.results24 (.cellS rfl rfl U31 rfl (z:=6) (by kernel_rfl) rfl (by decide)) rfl rfl rfl hkk
 refine Za (oW (oW (oW (oW (oW (og (dF hs1) (jF (jB (oW (oY (kN 55 [(1,.box 31 [nz,.own 2,iv (n-f),.own 3,.fr (Zb c.fa),iv c.val]),(2,.row true 3 1 c.st.length (c.st.map iv)),(3,.row true 3 1 c.se.length (c.se.map iv))] [(4,bx 1)] (Ze (ZV ?_)))))))))))))
 refine Z9 (ZS 1 0 5 true 3 1 rfl rfl rfl rfl) ?_
 refine kW 55 [(1,.box 31 [.fr (.sl 1 0 []),.own 2,iv (n-f),.own 3,.fr (Zb c.fa),iv c.val]),(2,.row true 3 1 c.st.length (c.st.map iv)),(3,.row true 3 1 c.se.length (c.se.map iv))] [(4,bx 1)] ?_
 have e0:c.sh=[]:=(Decidable.em (p.top=4)).elim (fun e4=>by have h1:=hsx e4;have h2:=hs1;omega) hs0
 rw [← hco,e0]
 exact Zaw 2 3 Tryz.results24 (.cellS rfl rfl U31 rfl (z:=6) (by kernel_rfl) rfl (by decide)) rfl rfl rfl hkk
set_option maxRecDepth 100000 in
theorem Apply_o2 (HP:FmOk p) (HL:FamLen p) (HC:Rd.CgOk c) (hz:(Rd.vcE p n t f c)=0) (hr:r<p.rz.length) (hi:i<c.st.length) (he:En.enB p n t f c (En.hdJ p f c p.msgs.length) (r:Int) (i:Int) kp=true) (hl:Rd.belB (Ap.af (n-f) c p.rz[r] i kp).se 1048577=true∧Rd.belB (Ap.af (n-f) c p.rz[r] i kp).fa 1048577=true) (k k2:Nat) (hkk:k≠k2):CtrO2 Tryz.prog J 9 [.agg (cFm p),.agg (cSz n t f),.agg (Rd.cCg c),.agg [iv r,iv i,iv kp]] k (.row true 3 1 ((Ap.af (n-f) c p.rz[r] i kp).st.length) ((Ap.af (n-f) c p.rz[r] i kp).st.map iv)) k2 (.row true 3 1 ((Ap.af (n-f) c p.rz[r] i kp).se.length) ((Ap.af (n-f) c p.rz[r] i kp).se.map iv)) (.tup [.agg [.fr (Zb (Ap.af (n-f) c p.rz[r] i kp).sh),.own k,iv (Ap.af (n-f) c p.rz[r] i kp).cor,.own k2,.fr (Zb (Ap.af (n-f) c p.rz[r] i kp).fa),iv (Ap.af (n-f) c p.rz[r] i kp).val],iv 0]):=by
 obtain ⟨hs,hx⟩:=En.vc_ok hz
 have hc:=En.cf_in hx
 obtain ⟨hv,ha,h8⟩:=Ns.sys_ok hs
 have hai:=Ns.adm_in ha
 have l8:=En.cf_len hc hai h8
 have hsz:=En.val_sizes hv
 refine KY Tryz.func9 rfl (pN (Zh (ZQ p)) (pN (Zh (Z0 n t f)) (pN (Zh (Rd.plain_cg c)) (pN (Zh (pN (.v _) (pN (.v _) (pN (.v _) pZ)))) pZ)))) (n:=39) rfl (by simp) (fun w0 => ?_)
 refine kW 39 [] [(0,.agg (cFm p)),(1,.agg (cSz n t f)),(2,.agg (Rd.cCg c)),(3,.agg [iv r,iv i,iv kp])] (jB (oA (ZA (X := .agg (cFm p)) (.tmp 0) rfl rfl rfl) I0 (oA (ZA (X := .agg (cSz n t f)) (.tmp 1) rfl rfl rfl) I0 (oA (ZA (X := .agg (Rd.cCg c)) (.tmp 2) rfl rfl rfl) I0 (oA (ZA (X := .agg [iv r,iv i,iv kp]) (.tmp 3) rfl rfl rfl) I0 (oZ 1 Z31 (oS (iv 0) (jD (Za (oA (Zk (z:=10) (.tmp 4) rfl U27 rfl (by kernel_rfl) rfl rfl) I0 (oA (Zk (z:=3) (.tmp 5) rfl U29 rfl (by kernel_rfl) rfl rfl) I0 (oA (Zk (z:=6) (.tmp 6) rfl U31 rfl (by kernel_rfl) rfl rfl) I0 (Yz rfl (KS (c := .func 22) (xs := #[.tmp 14,.tmp 15,.tmp 16]) (open_V HP HC hs hx) rfl (by kernel_rfl) rfl (Xs:=[.agg (cFm p),.agg (cSz n t f),.agg (Rd.cCg c)]) rfl rfl) ⟨I0,I0,I0,I0,T0⟩ T0 T0 (oS (.tup [.el (En.sysP p n t f) 0,.agg (En.cfV (Rd.shI p.top (Ns.shT p.top (Ns.cntE p n f)) c.sh) c),iv 0]) (oW (oW (oW (oZ 2 Z71 (oS (.el (En.sysP p n t f) 0) (oY ?_))))))))))))))))))))
 refine oS (iv 0) (kN 39 [(1,.box 31 [nz,nz,iv 0,nz,nz,iv 0]),(2,.box 71 (En.cfV (Rd.shI p.top (Ns.shT p.top (Ns.cntE p n f)) c.sh) c))] [(7,.el ([iv r,iv i,iv kp]) 0),(8,bx 1),(9,iv 0),(10,.el (En.sysP p n t f) 0),(11,bx 2),(12,iv 0)] (jC (jB (oS (iv 0) (oC (Yq (r:=false) rfl (by decide)) I0 I0 (jF (jB (oW (oW (oA (Zk (z:=3) (.tmp 7) rfl U35 rfl (by kernel_rfl) rfl rfl) I0 (oK (apply_ok HL hc hv l8 ⟨by omega,by omega⟩ hr hi he hl) [.el (En.sysP p n t f) 0,.agg (En.cfV (Rd.shI p.top (Ns.shT p.top (Ns.cntE p n f)) c.sh) c),.agg ([iv r,iv i,iv kp])] rfl rfl (oS (.tup [.fr (.agg (En.cfV (Rd.shI p.top (Ns.shT p.top (Ns.cntE p n f)) c.sh) (Ap.af (n-f) c p.rz[r] i kp))),iv 0]) (oS (.fr (.agg (En.cfV (Rd.shI p.top (Ns.shT p.top (Ns.cntE p n f)) c.sh) (Ap.af (n-f) c p.rz[r] i kp)))) (oW (Yz rfl (sB 16 11 (.tmp 30) (.agg [iv (Rd.shI p.top (Ns.shT p.top (Ns.cntE p n f)) c.sh),iv ((Ap.af (n-f) c p.rz[r] i kp).st.getD 0 0),iv ((Ap.af (n-f) c p.rz[r] i kp).st.getD 1 0),iv ((Ap.af (n-f) c p.rz[r] i kp).st.getD 2 0),iv ((Ap.af (n-f) c p.rz[r] i kp).st.getD 3 0),iv ((Ap.af (n-f) c p.rz[r] i kp).st.getD 4 0),iv ((Ap.af (n-f) c p.rz[r] i kp).st.getD 5 0),iv ((Ap.af (n-f) c p.rz[r] i kp).st.getD 6 0),iv ((Ap.af (n-f) c p.rz[r] i kp).st.getD 7 0),iv ((Ap.af (n-f) c p.rz[r] i kp).se.getD 0 0),iv ((Ap.af (n-f) c p.rz[r] i kp).se.getD 1 0),iv ((Ap.af (n-f) c p.rz[r] i kp).se.getD 2 0),iv ((Ap.af (n-f) c p.rz[r] i kp).fa.getD 0 0),iv ((Ap.af (n-f) c p.rz[r] i kp).fa.getD 1 0),iv ((Ap.af (n-f) c p.rz[r] i kp).fa.getD 2 0),iv ((Ap.af (n-f) c p.rz[r] i kp).val)])) ⟨I0,.inr (.inr (.inl ⟨_,rfl,rfl⟩)),T0⟩ ⟨rfl,T0⟩ rfl (oS (iv 0) ?_))))))))))))))))
 refine jD (jB (oS (iv 0) (oC (Yq (r:=false) rfl (by decide)) I0 I0 (jF (jB (oS (.el (En.sysP p n t f) 0) (oS (.agg [iv (Rd.shI p.top (Ns.shT p.top (Ns.cntE p n f)) c.sh),iv ((Ap.af (n-f) c p.rz[r] i kp).st.getD 0 0),iv ((Ap.af (n-f) c p.rz[r] i kp).st.getD 1 0),iv ((Ap.af (n-f) c p.rz[r] i kp).st.getD 2 0),iv ((Ap.af (n-f) c p.rz[r] i kp).st.getD 3 0),iv ((Ap.af (n-f) c p.rz[r] i kp).st.getD 4 0),iv ((Ap.af (n-f) c p.rz[r] i kp).st.getD 5 0),iv ((Ap.af (n-f) c p.rz[r] i kp).st.getD 6 0),iv ((Ap.af (n-f) c p.rz[r] i kp).st.getD 7 0),iv ((Ap.af (n-f) c p.rz[r] i kp).se.getD 0 0),iv ((Ap.af (n-f) c p.rz[r] i kp).se.getD 1 0),iv ((Ap.af (n-f) c p.rz[r] i kp).se.getD 2 0),iv ((Ap.af (n-f) c p.rz[r] i kp).fa.getD 0 0),iv ((Ap.af (n-f) c p.rz[r] i kp).fa.getD 1 0),iv ((Ap.af (n-f) c p.rz[r] i kp).fa.getD 2 0),iv ((Ap.af (n-f) c p.rz[r] i kp).val)]) (Yz rfl (ZaA (c := .func 24) (xs := #[.tmp 36,.tmp 37]) [] (write_o2 (Ap.af_ok HL hc hv HC l8 hr hi (kp:=kp)) (by show _=(((Ap.stA c p.rz[r] i kp).length:Nat):Int);rw [Ap.stA_len];exact hc.ln.symm) (by show (Ap.stA c p.rz[r] i kp).length≤8;rw [Ap.stA_len];exact l8) hsz.2.2.1 (by show (Ap.seA _ _ _ _ _).length=_;rw [Ap.seA_len];exact hc.ls) (by show (Ap.faA _ _ _ _ _).length=_;rw [Ap.faA_len];exact hc.lf) hc.co (by have h4:=Ap.shI_T hc hv;exact h4) (by have h4:=Ap.sh_no hc;exact h4) 3 4 (by decide)) rfl (by kernel_rfl) rfl (Xs:=[.el (En.sysP p n t f) 0,.agg [iv (Rd.shI p.top (Ns.shT p.top (Ns.cntE p n f)) c.sh),iv ((Ap.af (n-f) c p.rz[r] i kp).st.getD 0 0),iv ((Ap.af (n-f) c p.rz[r] i kp).st.getD 1 0),iv ((Ap.af (n-f) c p.rz[r] i kp).st.getD 2 0),iv ((Ap.af (n-f) c p.rz[r] i kp).st.getD 3 0),iv ((Ap.af (n-f) c p.rz[r] i kp).st.getD 4 0),iv ((Ap.af (n-f) c p.rz[r] i kp).st.getD 5 0),iv ((Ap.af (n-f) c p.rz[r] i kp).st.getD 6 0),iv ((Ap.af (n-f) c p.rz[r] i kp).st.getD 7 0),iv ((Ap.af (n-f) c p.rz[r] i kp).se.getD 0 0),iv ((Ap.af (n-f) c p.rz[r] i kp).se.getD 1 0),iv ((Ap.af (n-f) c p.rz[r] i kp).se.getD 2 0),iv ((Ap.af (n-f) c p.rz[r] i kp).fa.getD 0 0),iv ((Ap.af (n-f) c p.rz[r] i kp).fa.getD 1 0),iv ((Ap.af (n-f) c p.rz[r] i kp).fa.getD 2 0),iv ((Ap.af (n-f) c p.rz[r] i kp).val)]]) rfl rfl rfl) ⟨I0,I0,I0,T0⟩ T0 rfl (oY (oS (iv 0) (kN 39 [(1,.box 31 [.fr (Zb ((Ap.af (n-f) c p.rz[r] i kp).sh)),.own 3,iv ((Ap.af (n-f) c p.rz[r] i kp).cor),.own 4,.fr (Zb ((Ap.af (n-f) c p.rz[r] i kp).fa)),iv ((Ap.af (n-f) c p.rz[r] i kp).val)]),(3,.row true 3 1 ((Ap.af (n-f) c p.rz[r] i kp).st.length) ((Ap.af (n-f) c p.rz[r] i kp).st.map iv)),(4,.row true 3 1 ((Ap.af (n-f) c p.rz[r] i kp).se.length) ((Ap.af (n-f) c p.rz[r] i kp).se.map iv))] [(8,bx 1),(9,iv 0)] (Ze (ZV ?_)))))))))))))
 refine tri_giveT2 3 4 Tryz.results9 (.cellS rfl rfl U31 rfl (z:=6) (by kernel_rfl) rfl (by decide)) (.tmp rfl) rfl rfl rfl hkk
theorem Apply_own (HP:FmOk p) (HL:FamLen p) (HC:Rd.CgOk c) (hE:(Ap.apE p n t f c x y kp)=0) (k k2:Nat) (hkk:k≠k2):CtrO2 Tryz.prog J 9 [.agg (cFm p),.agg (cSz n t f),.agg (Rd.cCg c),.agg [iv x,iv y,iv kp]] k (.row true 3 1 (Ap.apC p n t f c x y kp).st.length ((Ap.apC p n t f c x y kp).st.map iv)) k2 (.row true 3 1 (Ap.apC p n t f c x y kp).se.length ((Ap.apC p n t f c x y kp).se.map iv)) (.tup [.agg [.fr (Zb (Ap.apC p n t f c x y kp).sh),.own k,iv (Ap.apC p n t f c x y kp).cor,.own k2,.fr (Zb (Ap.apC p n t f c x y kp).fa),iv (Ap.apC p n t f c x y kp).val],iv 0]):=by
 have hz:Rd.vcE p n t f c=0:=by
  by_cases hz:Rd.vcE p n t f c=0
  ·exact hz
  rw [Ap.apE_err hz] at hE;exact absurd hE hz
 cases he:En.enB p n t f c (En.hdJ p f c p.msgs.length) x y kp with
 | false=>rw [Ap.apE_no hz he] at hE;cases hE
 | true =>
   obtain ⟨r,i,hr,hi,rfl,rfl⟩:=Ap.en_at he
   by_cases hl:Rd.belB (Ap.af (n-f) c p.rz[r] i kp).se 1048577=true∧Rd.belB (Ap.af (n-f) c p.rz[r] i kp).fa 1048577=true
   ·rw [Ap.apC_ok hz he hr hl]
    exact Apply_o2 HP HL HC hz hr hi he hl k k2 hkk
   rw [Ap.apE_lg hz he hr hl] at hE;cases hE
theorem rapply_g (HL:FamLen p) (HC:Rd.CgOk c) (hc:En.CfV p n f c) (hv:valE p=0) {g:Nat→Int} (he:En.enB p n t f c g x y kp=true):Ctr Tryz.prog J 27 [.agg (cFm p),.agg (Rd.cCg c),.agg [iv x,iv y,iv kp]] (.tup [.agg (Rd.cCg (Ap.afX p n f c x y kp)),bv (Ap.lgB (Ap.afX p n f c x y kp))]):=by
 obtain ⟨r,i,hr,hi,rfl,rfl⟩:=Ap.en_at he
 have hp:=Ap.hpt_of (hr:=hr) he
 have hp2:p.rz[r].kind=2∨p.rz[r].kind=5→kp.toNat≠i:=fun h25=>Ra.pt_ne (Ap.pt_of (hr:=hr) he) h25
 rw [Ap.afX_at hr,← hc.co]
 by_cases hic:(i:Int)<c.cor
 ·exact rapply_se HL HC hc hv hr hi hp hp2 hic
 exact rapply_fa HL HC hc hv hr hi hp hp2 hic
abbrev Ze2 (x0:Fm) (x1:Int) (x2:Int) (x3:Cf) (x4:Int) (x5:Int) (x6:Int):List (Nat × ABlk):=[(1,.box 31 [nz,nz,iv 0,nz,nz,iv 0]),(2,.box 31 [.fr (Zb ((Ap.afX x0 x1 x2 x3 x4 x5 x6).sh)),.fr (Zb ((Ap.afX x0 x1 x2 x3 x4 x5 x6).st)),iv ((Ap.afX x0 x1 x2 x3 x4 x5 x6).cor),.fr (Zb ((Ap.afX x0 x1 x2 x3 x4 x5 x6).se)),.fr (Zb ((Ap.afX x0 x1 x2 x3 x4 x5 x6).fa)),iv ((Ap.afX x0 x1 x2 x3 x4 x5 x6).val)])]
set_option maxRecDepth 100000 in
set_option maxHeartbeats 6400000 in
theorem rApply_c (HP:FmOk p) (HL:FamLen p) (HC:Rd.CgOk c) :Ctr Tryz.prog J 10 [.agg (cFm p),.agg (cSz n t f),.agg (Rd.cCg c),.agg [iv x,iv y,iv kp]] (.tup [.agg (Rd.cCg (Ap.apC p n t f c x y kp)),iv (Ap.apE p n t f c x y kp)]):=by
 refine Zm Tryz.func10 rfl (pN (Zh (ZQ p)) (pN (Zh (Z0 n t f)) (pN (Zh (Rd.plain_cg c)) (pN (Zh (pN (.v _) (pN (.v _) (pN (.v _) pZ)))) pZ)))) (n:=39) rfl (by simp) (fun w0 => ?_)
 refine kW 39 [] [(0,.agg (cFm p)),(1,.agg (cSz n t f)),(2,.agg (Rd.cCg c)),(3,.agg [iv x,iv y,iv kp])] (jB (oA (ZA (X := .agg (cFm p)) (.tmp 0) rfl rfl rfl) I0 (oA (ZA (X := .agg (cSz n t f)) (.tmp 1) rfl rfl rfl) I0 (oA (ZA (X := .agg (Rd.cCg c)) (.tmp 2) rfl rfl rfl) I0 (oA (ZA (X := .agg [iv x,iv y,iv kp]) (.tmp 3) rfl rfl rfl) I0 (oZ 1 Z31 (oS (iv 0) (jD (jB (oA (Zk (z:=10) (.tmp 4) rfl U27 rfl (by kernel_rfl) rfl rfl) I0 (oA (Zk (z:=3) (.tmp 5) rfl U29 rfl (by kernel_rfl) rfl rfl) I0 (oA (Zk (z:=6) (.tmp 6) rfl U31 rfl (by kernel_rfl) rfl rfl) I0 (oK (Zb6 HP HC) [.agg (cFm p),.agg (cSz n t f),.agg (Rd.cCg c)] rfl rfl (oS (iv (Rd.vcE p n t f c)) (jD ?_)))))))))))))))
 by_cases hs1:(Rd.vcE p n t f c)=0
 obtain ⟨hs,hx⟩:=En.vc_ok hs1
 have hc:=En.cf_in hx
 obtain ⟨hv,ha,h8⟩:=Ns.sys_ok hs
 have hai:=Ns.adm_in ha
 have l8:=En.cf_len hc hai h8
 have hsz:=En.val_sizes hv
 have hf:0≤f∧f≤1048576:=by omega
 refine Za (oW (on (dT' hs1) (jF (jM ?_))))
 by_cases hs2:(En.enB p n t f c (En.hdG p f c false) x y kp)=true
 refine Za (oA (Zk (z:=10) (.tmp 4) rfl U27 rfl (by kernel_rfl) rfl rfl) I0 (oA (Zk (z:=3) (.tmp 5) rfl U29 rfl (by kernel_rfl) rfl rfl) I0 (oA (Zk (z:=6) (.tmp 6) rfl U31 rfl (by kernel_rfl) rfl rfl) I0 (oA (Zk (z:=3) (.tmp 7) rfl U35 rfl (by kernel_rfl) rfl rfl) I0 (oK (Zr (Zcj HL HC hc hv hf) hs2) [.agg (cFm p),.agg (cSz n t f),.agg (Rd.cCg c),.agg ([iv x,iv y,iv kp]),bF] rfl rfl (oS bF (jF (jB (oA (Zk (z:=10) (.tmp 4) rfl U27 rfl (by kernel_rfl) rfl rfl) I0 (oA (Zk (z:=6) (.tmp 6) rfl U31 rfl (by kernel_rfl) rfl rfl) I0 (oA (Zk (z:=3) (.tmp 7) rfl U35 rfl (by kernel_rfl) rfl rfl) I0 (oK (rapply_g HL HC hc hv hs2) [.agg (cFm p),.agg (Rd.cCg c),.agg ([iv x,iv y,iv kp])] rfl rfl (oS (.tup [.fr (.agg (Rd.cCg (Ap.afX p n f c x y kp))),bv (Ap.lgB (Ap.afX p n f c x y kp))]) (oS (.fr (.agg (Rd.cCg (Ap.afX p n f c x y kp)))) (oW (oZ 2 Z31 (Yz rfl (sB 6 11 (.tmp 33) (.agg [.fr (Zb ((Ap.afX p n f c x y kp).sh)),.fr (Zb ((Ap.afX p n f c x y kp).st)),iv ((Ap.afX p n f c x y kp).cor),.fr (Zb ((Ap.afX p n f c x y kp).se)),.fr (Zb ((Ap.afX p n f c x y kp).fa)),iv ((Ap.afX p n f c x y kp).val)])) ⟨I0,.inr (.inr (.inl ⟨_,rfl,rfl⟩)),T0⟩ ⟨rfl,T0⟩ rfl (oS (bv (Ap.lgB (Ap.afX p n f c x y kp))) ?_))))))))))))))))))
 refine jD (Zl ?_)
 by_cases hs3:(Ap.lgB (Ap.afX p n f c x y kp))=true
 rw [hs3]
 refine kW 39 (Ze2 p n f c x y kp) [(8,bx 1),(9,iv 0),(11,bx 2),(12,bT)] (Za (oF bF (jF (jB (oW (oY (oS (iv 0) (kN 39 [(1,.box 31 [.fr (Zb ((Ap.afX p n f c x y kp).sh)),.fr (Zb ((Ap.afX p n f c x y kp).st)),iv ((Ap.afX p n f c x y kp).cor),.fr (Zb ((Ap.afX p n f c x y kp).se)),.fr (Zb ((Ap.afX p n f c x y kp).fa)),iv ((Ap.afX p n f c x y kp).val)])] [(8,bx 1),(9,iv 0)] (Ze (ZV ?_))))))))))
 refine ZW Tryz.results10 (.cellS rfl rfl U31 rfl (z:=6) (by kernel_rfl) rfl (by decide)) (.tmp rfl) ?_
 rw [Ra.apC_y hs1 hs2 hs3,Ra.apE_y hs1 hs2 hs3]
 exact rfl
 have hs3f:(Ap.lgB (Ap.afX p n f c x y kp))=false:=by simpa using hs3
 rw [hs3f]
 refine kW 39 (Ze2 p n f c x y kp) [(8,bx 1),(9,iv 0),(11,bx 2),(12,bF)] (Za (oF bT (jG (Yz rfl (YV [] #[.slice none 0 0,.slice none 0 0,.int .i64 0,.slice none 0 0,.slice none 0 0,.int .i64 0] rfl rfl (by kernel_rfl) rfl) T0 T0 T0 (oY (oS (iv 4) (kN 39 (Ze2 p n f c x y kp) [(8,bx 1),(9,iv 4),(11,bx 2)] (Ze (jN ?_)))))))))
 refine Z9 (ZS 1 0 3 true 3 1 rfl rfl rfl rfl) ?_
 refine Z9 (ZS 1 1 4 true 3 1 rfl rfl rfl rfl) ?_
 refine Z9 (ZS 1 3 5 true 3 1 rfl rfl rfl rfl) ?_
 refine Z9 (ZS 1 4 6 true 3 1 rfl rfl rfl rfl) ?_
 refine ZW Tryz.results10 (.cellS rfl rfl U31 rfl (z:=6) (by kernel_rfl) rfl (by decide)) (.tmp rfl) ?_
 rw [Ra.apC_n hs1 hs2 hs3f,Ra.apE_n hs1 hs2 hs3f]
 exact rfl
 have hs2f:(En.enB p n t f c (En.hdG p f c false) x y kp)=false:=by simpa using hs2
 refine Za (oA (Zk (z:=10) (.tmp 4) rfl U27 rfl (by kernel_rfl) rfl rfl) I0 (oA (Zk (z:=3) (.tmp 5) rfl U29 rfl (by kernel_rfl) rfl rfl) I0 (oA (Zk (z:=6) (.tmp 6) rfl U31 rfl (by kernel_rfl) rfl rfl) I0 (oA (Zk (z:=3) (.tmp 7) rfl U35 rfl (by kernel_rfl) rfl rfl) I0 (oK (Zr (Zcj HL HC hc hv hf) hs2f) [.agg (cFm p),.agg (cSz n t f),.agg (Rd.cCg c),.agg ([iv x,iv y,iv kp]),bF] rfl rfl (oS bT (jG (Yz rfl (YV [] #[.slice none 0 0,.slice none 0 0,.int .i64 0,.slice none 0 0,.slice none 0 0,.int .i64 0] rfl rfl (by kernel_rfl) rfl) T0 T0 T0 (oY (oS (iv 9) (kN 39 [(1,.box 31 [nz,nz,iv 0,nz,nz,iv 0])] [(4,.el (cFm p) 0),(6,.el (Rd.cCg c) 0),(7,.el ([iv x,iv y,iv kp]) 0),(8,bx 1),(9,iv 9)] (Ze (jN ?_)))))))))))))
 refine Z9 (ZS 1 0 2 true 3 1 rfl rfl rfl rfl) ?_
 refine Z9 (ZS 1 1 3 true 3 1 rfl rfl rfl rfl) ?_
 refine Z9 (ZS 1 3 4 true 3 1 rfl rfl rfl rfl) ?_
 refine Z9 (ZS 1 4 5 true 3 1 rfl rfl rfl rfl) ?_
 refine ZW Tryz.results10 (.cellS rfl rfl U31 rfl (z:=6) (by kernel_rfl) rfl (by decide)) (.tmp rfl) ?_
 rw [Ap.apC_no hs1 hs2f,Ap.apE_no hs1 hs2f]
 exact rfl
 refine Za (oW (on (dF' hs1) (jG (Yz rfl (YV [] #[.slice none 0 0,.slice none 0 0,.int .i64 0,.slice none 0 0,.slice none 0 0,.int .i64 0] rfl rfl (by kernel_rfl) rfl) T0 T0 T0 (oW (oY (oS (iv (Rd.vcE p n t f c)) (kN 39 [(1,.box 31 [nz,nz,iv 0,nz,nz,iv 0])] [(4,.el (cFm p) 0),(5,.el (cSz n t f) 0),(6,.el (Rd.cCg c) 0),(7,.el ([iv x,iv y,iv kp]) 0),(8,bx 1),(9,iv (Rd.vcE p n t f c))] (Ze (jN ?_))))))))))
 refine Z9 (ZS 1 0 2 true 3 1 rfl rfl rfl rfl) ?_
 refine Z9 (ZS 1 1 3 true 3 1 rfl rfl rfl rfl) ?_
 refine Z9 (ZS 1 3 4 true 3 1 rfl rfl rfl rfl) ?_
 refine Z9 (ZS 1 4 5 true 3 1 rfl rfl rfl rfl) ?_
 refine ZW Tryz.results10 (.cellS rfl rfl U31 rfl (z:=6) (by kernel_rfl) rfl (by decide)) (.tmp rfl) ?_
 rw [Ap.apC_err hs1,Ap.apE_err hs1]
 exact rfl
end Go.Proofs.YtdbehgbggaaipaaGreat
namespace Go.Proofs.YtdbehgbggaaipaaGreat
open Go.RowKit Go.Deep
section
variable {P:Program} {J:World→Prop} {o:Oper}
end
theorem rulesE_all {q:Fm}:∀ (f i:Nat),rulesE q i f=0→∀ k,i≤k→k<i+f→ruleE q k (q.rz.getD k default)=0
 | 0,i,_,k,a,b=>absurd b (by omega)
 | f+1,i,e,k,a,b=>by
   unfold rulesE at e
   split at e
   ·rename_i e1
    by_cases x:i=k
    ·subst x;exact e1
    exact rulesE_all f (i+1) e k (by omega) (by omega)
   exact absurd e (by assumption)
variable {J:World→Prop}
end Go.Proofs.YtdbehgbggaaipaaGreat
namespace Go.Proofs.YtdbehgbggaaipaaGreat
open Go.RowKit Go.Deep
namespace Pe
open En Ap
section
variable {a b:Nat}
end
section
variable {a b:Nat} {c:Cf} (ha:a<c.st.length) (hb:b<c.st.length)
include ha hb
end
variable {p:Fm}{n t f:Int}{c:Cf}
theorem in_ap {x y k:Int} (HL:FamLen p) (HC:Rd.CgOk c) (HI:Rd.CgIn c):Rd.CgIn (apC p n t f c x y k)∧Rd.CgOk (apC p n t f c x y k)∧(apE p n t f c x y k=0→(apC p n t f c x y k).st.length=c.st.length):=by
 by_cases h:apE p n t f c x y k=0
 ·have hz:Rd.vcE p n t f c=0:=by
   by_cases hz:Rd.vcE p n t f c=0
   ·exact hz
   rw [apE_err hz] at h;exact absurd h hz
  obtain ⟨hs,hx⟩:=vc_ok hz
  obtain ⟨hv,hadm,h8⟩:=Ns.sys_ok hs
  have hc:=cf_in hx
  have hai:=Ns.adm_in hadm
  have l8:=cf_len hc hai h8
  cases he:enB p n t f c (hdJ p f c p.msgs.length) x y k with
  | false=>rw [apE_no hz he] at h;cases h
  | true =>
    obtain ⟨r,i,hr,hi,rfl,rfl⟩:=en_at he
    have e:apC p n t f c (r:Int) (i:Int) k=af (n-f) c p.rz[r] i k:=by unfold apC;rw [if_pos h,afX_at hr]
    rw [e]
    have ok:=af_ok HL hc hv HC l8 hr hi (kp:=k)
    have hv2:I64 (af (n-f) c p.rz[r] i k).val:=by
     show I64 (if 0≤p.rz[r].wr then p.rz[r].wr else c.val)
     split
     ·have R:=val_in hv (List.getElem_mem hr)
      have hsz:=val_sizes hv
      have:=R.wr
      unfold I64;omega
     exact HI.val
    exact ⟨⟨ok.sh,ok.st,ok.se,ok.fa,HI.cor,hv2⟩,ok,fun _=>stA_len _ _ _ _⟩
 have e:apC p n t f c x y k=zC:=by unfold apC;rw [if_neg h]
 rw [e]
 have hn:∀ x∈([]:List Int),I64 x:=fun x hx=>absurd hx (List.not_mem_nil)
 exact ⟨⟨hn,hn,hn,hn,by show I64 0;unfold I64;omega,by show I64 0;unfold I64;omega⟩,⟨hn,hn,hn,hn,by decide,by decide,by decide,by decide⟩,fun h2=>absurd h2 h⟩
end Pe
variable {J:World→Prop}
theorem Ap.zC_in:Rd.CgIn Ap.zC:=by
 have hn:∀ x∈([]:List Int),I64 x:=fun x hx=>absurd hx (List.not_mem_nil)
 exact ⟨hn,hn,hn,hn,by show I64 0;unfold I64;omega,by show I64 0;unfold I64;omega⟩
variable {p:Fm}{n t f x y kp:Int}{c:Cf}
theorem Apply_e (HP:FmOk p) (HL:FamLen p) (HC:Rd.CgOk c) (hE:¬ (Ap.apE p n t f c x y kp)=0):Ctr Tryz.prog J 9 [.agg (cFm p),.agg (cSz n t f),.agg (Rd.cCg c),.agg [iv x,iv y,iv kp]] (.tup [.agg (Rd.cCg Ap.zC),iv (Ap.apE p n t f c x y kp)]):=by
 have h:=Apply_c (J:=J) HP HL HC (n:=n) (t:=t) (f:=f) (x:=x) (y:=y) (kp:=kp)
 rwa [show (Ap.apC p n t f c x y kp)=Ap.zC from if_neg hE] at h
theorem rApply_e (HP:FmOk p) (HL:FamLen p) (HC:Rd.CgOk c) (hE:¬ (Ap.apE p n t f c x y kp)=0):Ctr Tryz.prog J 10 [.agg (cFm p),.agg (cSz n t f),.agg (Rd.cCg c),.agg [iv x,iv y,iv kp]] (.tup [.agg (Rd.cCg Ap.zC),iv (Ap.apE p n t f c x y kp)]):=by
 have h:=rApply_c (J:=J) HP HL HC (n:=n) (t:=t) (f:=f) (x:=x) (y:=y) (kp:=kp)
 rwa [show (Ap.apC p n t f c x y kp)=Ap.zC from if_neg hE] at h
theorem rApply_0 (HP:FmOk p) (HL:FamLen p) (HC:Rd.CgOk c) (hE:(Ap.apE p n t f c x y kp)=0):Ctr Tryz.prog J 10 [.agg (cFm p),.agg (cSz n t f),.agg (Rd.cCg c),.agg [iv x,iv y,iv kp]] (.tup [.agg (Rd.cCg (Ap.apC p n t f c x y kp)),iv 0]):=by
 have h:=rApply_c (J:=J) HP HL HC (n:=n) (t:=t) (f:=f) (x:=x) (y:=y) (kp:=kp)
 rwa [hE] at h
abbrev ZaW (x0:Fm) (x1:Int) (x2:Int) (x3:Int) (x4:Cf):List (Nat × ABlk):=[(1,.box 33 (cFm x0++(cSz x1 x2 x3++Rd.cCg x4))),(3,.box 31 [.fr (Zb x4.sh),.fr (Zb x4.st),iv x4.cor,.fr (Zb x4.se),.fr (Zb x4.fa),iv x4.val]),(4,.box 31 [.fr (Zb Ap.zC.sh),.fr (Zb Ap.zC.st),iv Ap.zC.cor,.fr (Zb Ap.zC.se),.fr (Zb Ap.zC.fa),iv Ap.zC.val])]
set_option maxRecDepth 100000 in
set_option maxHeartbeats 6400000 in
theorem ZdY (HP:FmOk p) (HI:Rd.CgIn c) :Ctr Tryz.prog J 3 [.agg (cFm p++(cSz n t f++Rd.cCg c)),.agg [iv x,iv y,iv kp]] bT:=by
 refine Zm Tryz.func3 rfl (pN (Zh (fun X hX=>by rcases List.mem_append.1 hX with h | h;exact ZQ p X h;rcases List.mem_append.1 h with h | h;exact Z0 n t f X h;exact Rd.plain_cg c X h)) (pN (Zh (pN (.v _) (pN (.v _) (pN (.v _) pZ)))) pZ)) (n:=88) rfl (by simp) (fun w0 => ?_)
 refine kW 88 [] [(0,.agg (cFm p++(cSz n t f++Rd.cCg c))),(1,.agg [iv x,iv y,iv kp])] (jB (oX 1 (.agg (cFm p++(cSz n t f++Rd.cCg c))) (oX 2 (.agg [iv x,iv y,iv kp]) (oS bF (jD (Zl ?_))))))
 by_cases hs1:(bigF p)=true
 refine Za (oW (oW (oK (Zr (Big_c HP) hs1) [.agg (cFm p)] rfl rfl (oS bT (qK (qK (qK (oS bT (jG (oK Sh.zknown_c [] rfl rfl (oS bT (jE (Zd ?_)))))))))))))
 refine Zg Tryz.results3 (.tmp rfl) ?_
 exact rfl
 have hs1f:(bigF p)=false:=by simpa using hs1
 by_cases hs2:(wideCf c)=true
 refine Za (oW (oW (oK (Zr (Big_c HP) hs1f) [.agg (cFm p)] rfl rfl (oS bF (oW (oW (oK (Zr (Rd.Wide_c HI) hs2) [.agg (Rd.cCg c)] rfl rfl (oS bT (jG (oK Sh.zknown_c [] rfl rfl (oS bT (jE (Zd ?_)))))))))))))
 refine Zg Tryz.results3 (.tmp rfl) ?_
 exact rfl
 have hs2f:(wideCf c)=false:=by simpa using hs2
 refine Za (oW (oW (oK (Zr (Big_c HP) hs1f) [.agg (cFm p)] rfl rfl (oS bF (oW (oW (oK (Zr (Rd.Wide_c HI) hs2f) [.agg (Rd.cCg c)] rfl rfl (oS bF (jF (jB (oW (oW (oK (CopyCf_c (Rd.cg_ok HI hs2f)) [.agg (Rd.cCg c)] rfl rfl (oZ 3 Z31 (Yz rfl (sB 6 5 (.tmp 24) (.agg [.fr (Zb c.sh),.fr (Zb c.st),iv c.cor,.fr (Zb c.se),.fr (Zb c.fa),iv c.val])) ⟨I0,.inr (.inr (.inl ⟨_,rfl,rfl⟩)),T0⟩ ⟨rfl,T0⟩ rfl (jD ?_))))))))))))))))
 by_cases hs3:(Ap.apE p n t f c x y kp)=0
 refine Za (oF (.agg (cFm p)) (oF (.agg (cSz n t f)) (oS (.agg [.fr (Zb c.sh),.fr (Zb c.st),iv c.cor,.fr (Zb c.se),.fr (Zb c.fa),iv c.val]) (oS (.agg [iv x,iv y,iv kp]) (Yz rfl (ZaA (c := .func 9) (xs := #[.tmp 27,.tmp 29,.tmp 30,.tmp 31]) [] (Apply_own HP (famLen hs1f) (Rd.cg_ok HI hs2f) hs3 4 5 (by decide)) rfl (by kernel_rfl) rfl (Xs:=[.agg (cFm p),.agg (cSz n t f),.agg [.fr (Zb c.sh),.fr (Zb c.st),iv c.cor,.fr (Zb c.se),.fr (Zb c.fa),iv c.val],.agg [iv x,iv y,iv kp]]) rfl rfl rfl) ⟨I0,I0,I0,I0,I0,T0⟩ T0 rfl (oS (.tup [.agg [.fr (Zb ((Ap.apC p n t f c x y kp).sh)),.own 4,iv ((Ap.apC p n t f c x y kp).cor),.own 5,.fr (Zb ((Ap.apC p n t f c x y kp).fa)),iv ((Ap.apC p n t f c x y kp).val)],iv 0]) (oW (oW (oZ 6 Z31 (oY (oS (iv 0) (kN 88 [(1,.box 33 (cFm p++(cSz n t f++Rd.cCg c))),(2,.box 35 [iv x,iv y,iv kp]),(3,.box 31 [.fr (Zb c.sh),.fr (Zb c.st),iv c.cor,.fr (Zb c.se),.fr (Zb c.fa),iv c.val]),(4,.row true 3 1 ((Ap.apC p n t f c x y kp).st.length) ((Ap.apC p n t f c x y kp).st.map iv)),(5,.row true 3 1 ((Ap.apC p n t f c x y kp).se.length) ((Ap.apC p n t f c x y kp).se.map iv)),(6,.box 31 [.fr (Zb ((Ap.apC p n t f c x y kp).sh)),.own 4,iv ((Ap.apC p n t f c x y kp).cor),.own 5,.fr (Zb ((Ap.apC p n t f c x y kp).fa)),iv ((Ap.apC p n t f c x y kp).val)])] [(2,bx 1),(3,bx 2),(4,bF),(5,bx 3),(6,bx 6),(7,iv 0)] (jC (Za (oW (oW (oW (oW (oW (oW (oW (oK (rApply_0 HP (famLen hs1f) (Rd.cg_ok HI hs2f) hs3) [.agg (cFm p),.agg (cSz n t f),.agg (Rd.cCg c),.agg [iv x,iv y,iv kp]] rfl rfl ?_))))))))))))))))))))))
 refine oS (.tup [.fr (.agg (Rd.cCg (Ap.apC p n t f c x y kp))),iv 0]) (oS (.fr (.agg (Rd.cCg (Ap.apC p n t f c x y kp)))) (oW (oZ 7 Z31 (Yz rfl (sB 6 8 (.tmp 44) (.agg [.fr (Zb ((Ap.apC p n t f c x y kp).sh)),.fr (Zb ((Ap.apC p n t f c x y kp).st)),iv ((Ap.apC p n t f c x y kp).cor),.fr (Zb ((Ap.apC p n t f c x y kp).se)),.fr (Zb ((Ap.apC p n t f c x y kp).fa)),iv ((Ap.apC p n t f c x y kp).val)])) ⟨I0,.inr (.inr (.inl ⟨_,rfl,rfl⟩)),T0⟩ ⟨rfl,T0⟩ rfl (oS (iv 0) (jD (Za (oS (iv 0) (oS (iv 0) (oC (ZF (r:=true) rfl (by decide)) I0 I0 (oS bT (oS (.agg [.fr (Zb ((Ap.apC p n t f c x y kp).sh)),.own 4,iv ((Ap.apC p n t f c x y kp).cor),.own 5,.fr (Zb ((Ap.apC p n t f c x y kp).fa)),iv ((Ap.apC p n t f c x y kp).val)]) (oS (.agg [.fr (Zb ((Ap.apC p n t f c x y kp).sh)),.fr (Zb ((Ap.apC p n t f c x y kp).st)),iv ((Ap.apC p n t f c x y kp).cor),.fr (Zb ((Ap.apC p n t f c x y kp).se)),.fr (Zb ((Ap.apC p n t f c x y kp).fa)),iv ((Ap.apC p n t f c x y kp).val)]) (WR rfl (sc #[.tmp 50,.tmp 51] [(4,.row true 3 1 ((Ap.apC p n t f c x y kp).st.length) ((Ap.apC p n t f c x y kp).st.map iv)),(5,.row true 3 1 ((Ap.apC p n t f c x y kp).se.length) ((Ap.apC p n t f c x y kp).se.map iv))] (Rd.rCompare_c (Pe.in_ap (famLen hs1f) (Rd.cg_ok HI hs2f) HI).1) [.agg [.fr (Zb ((Ap.apC p n t f c x y kp).sh)),.own 4,iv ((Ap.apC p n t f c x y kp).cor),.own 5,.fr (Zb ((Ap.apC p n t f c x y kp).fa)),iv ((Ap.apC p n t f c x y kp).val)],.agg [.fr (Zb ((Ap.apC p n t f c x y kp).sh)),.fr (Zb ((Ap.apC p n t f c x y kp).st)),iv ((Ap.apC p n t f c x y kp).cor),.fr (Zb ((Ap.apC p n t f c x y kp).se)),.fr (Zb ((Ap.apC p n t f c x y kp).fa)),iv ((Ap.apC p n t f c x y kp).val)]] rfl rfl rfl) ⟨I0,I0,I0,T0⟩ ⟨rfl,rfl,T0⟩ T0 (gC (ZF (r:=true) rfl (by decide)) I0 I0 (oF bT (jD (jB ?_))))))))))))))))))
 refine oS (iv 0) (kN 88 [(1,.box 33 (cFm p++(cSz n t f++Rd.cCg c))),(3,.box 31 [.fr (Zb c.sh),.fr (Zb c.st),iv c.cor,.fr (Zb c.se),.fr (Zb c.fa),iv c.val]),(4,.row true 3 1 ((Ap.apC p n t f c x y kp).st.length) ((Ap.apC p n t f c x y kp).st.map iv)),(5,.row true 3 1 ((Ap.apC p n t f c x y kp).se.length) ((Ap.apC p n t f c x y kp).se.map iv)),(6,.box 31 [.fr (Zb ((Ap.apC p n t f c x y kp).sh)),.own 4,iv ((Ap.apC p n t f c x y kp).cor),.own 5,.fr (Zb ((Ap.apC p n t f c x y kp).fa)),iv ((Ap.apC p n t f c x y kp).val)])] [(2,bx 1),(4,bF),(5,bx 3),(6,bx 6),(10,bT),(11,iv 0)] (Ze (Zn ?_)))
 refine ZK (σ:={s:Nat × List Int // s.1≤(Ap.apC p n t f c x y kp).st.length∧s.2.length=(Ap.apC p n t f c x y kp).st.length}) (fun s=>(ofL [(1,.box 33 (cFm p++(cSz n t f++Rd.cCg c))),(3,.box 31 [.fr (Zb c.sh),.fr (Zb c.st),iv c.cor,.fr (Zb c.se),.fr (Zb c.fa),iv c.val]),(4,.row true 3 1 ((Ap.apC p n t f c x y kp).st.length) (s.1.2.map iv)),(5,.row true 3 1 ((Ap.apC p n t f c x y kp).se.length) ((Ap.apC p n t f c x y kp).se.map iv)),(6,.box 31 [.fr (Zb ((Ap.apC p n t f c x y kp).sh)),.own 4,iv ((Ap.apC p n t f c x y kp).cor),.own 5,.fr (Zb ((Ap.apC p n t f c x y kp).fa)),iv ((Ap.apC p n t f c x y kp).val)])],ofT 88 [(2,bx 1),(4,bF),(5,bx 3),(6,bx 6),(10,bT),(11,iv s.1.1)])) (fun s=>(Ap.apC p n t f c x y kp).st.length-s.1.1) ⟨(0,(Ap.apC p n t f c x y kp).st),Nat.zero_le _,rfl⟩ (Zp _ _) (fun s => ?_)
 obtain ⟨⟨k,L⟩,hk0,hL⟩:=s
 show ETri J w0 (ofL [(1,.box 33 (cFm p++(cSz n t f++Rd.cCg c))),(3,.box 31 [.fr (Zb c.sh),.fr (Zb c.st),iv c.cor,.fr (Zb c.se),.fr (Zb c.fa),iv c.val]),(4,.row true 3 1 ((Ap.apC p n t f c x y kp).st.length) (L.map iv)),(5,.row true 3 1 ((Ap.apC p n t f c x y kp).se.length) ((Ap.apC p n t f c x y kp).se.map iv)),(6,.box 31 [.fr (Zb ((Ap.apC p n t f c x y kp).sh)),.own 4,iv ((Ap.apC p n t f c x y kp).cor),.own 5,.fr (Zb ((Ap.apC p n t f c x y kp).fa)),iv ((Ap.apC p n t f c x y kp).val)])]) (ofT 88 [(2,bx 1),(4,bF),(5,bx 3),(6,bx 6),(10,bT),(11,iv k)]) _
 dsimp only at hk0 hL
 have hn:=(Pe.in_ap (x:=x) (y:=y) (k:=kp) (n:=n) (t:=t) (f:=f) (famLen hs1f) (Rd.cg_ok HI hs2f) HI).2.1.lst
 refine jM ?_
 by_cases hs4:(k:Int)<(((Ap.apC p n t f c x y kp).st.length:Nat):Int)
 refine Za (oW (oF (.own 4) (oB (Y7 (.tmp 57) rfl U24) I0 rfl (ol (dT hs4) (jH (Zq (jC (Zn (Za (oF (.own 4) (oS (iv k) (Yz rfl (Z5 (off:=k*1) (.tmp 63) (.tmp 64) rfl U24 (by kernel_rfl) (by omega) (by omega) rfl) ⟨I0,I0,T0⟩ ⟨rfl,T0⟩ T0 (Yz rfl (Yj (X:=iv 99) (off:=k*1) (cs:=(L.map iv)) (ds:=((L.set k 99).map iv)) (zz:=1) (.tmp 65) (.const (.int .i64 99)) rfl (by kernel_rfl) (by kernel_rfl) (fun _ d hd=>by simp only [AV.cellsOf,List.mem_cons,List.not_mem_nil,or_false] at hd;subst hd;rfl) (by kernel_rfl) (by simp;omega) Ra.set_row) ⟨I0,I0,T0⟩ ⟨rfl,T0⟩ rfl (Yi (Zv (Ze (Za (oS (iv k) (oV ((k+1:Nat):Int) (oS (iv (k+1:Nat)) ?_))))))))))))))))))))
 refine kN 88 [(1,.box 33 (cFm p++(cSz n t f++Rd.cCg c))),(3,.box 31 [.fr (Zb c.sh),.fr (Zb c.st),iv c.cor,.fr (Zb c.se),.fr (Zb c.fa),iv c.val]),(4,.row true 3 1 ((Ap.apC p n t f c x y kp).st.length) ((L.set k 99).map iv)),(5,.row true 3 1 ((Ap.apC p n t f c x y kp).se.length) ((Ap.apC p n t f c x y kp).se.map iv)),(6,.box 31 [.fr (Zb ((Ap.apC p n t f c x y kp).sh)),.own 4,iv ((Ap.apC p n t f c x y kp).cor),.own 5,.fr (Zb ((Ap.apC p n t f c x y kp).fa)),iv ((Ap.apC p n t f c x y kp).val)])] [(2,bx 1),(4,bF),(5,bx 3),(6,bx 6),(10,bT),(11,iv (k+1:Nat)),(59,bT)] (Ze ?_)
 refine Zs ⟨(k+1,L.set k 99),by dsimp only;omega,by dsimp only;rw [List.length_set];exact hL⟩ (show (Ap.apC p n t f c x y kp).st.length-(k+1)<(Ap.apC p n t f c x y kp).st.length-k by omega) ?_
 show Wk _ _ (ofL [(1,.box 33 (cFm p++(cSz n t f++Rd.cCg c))),(3,.box 31 [.fr (Zb c.sh),.fr (Zb c.st),iv c.cor,.fr (Zb c.se),.fr (Zb c.fa),iv c.val]),(4,.row true 3 1 ((Ap.apC p n t f c x y kp).st.length) ((L.set k 99).map iv)),(5,.row true 3 1 ((Ap.apC p n t f c x y kp).se.length) ((Ap.apC p n t f c x y kp).se.map iv)),(6,.box 31 [.fr (Zb ((Ap.apC p n t f c x y kp).sh)),.own 4,iv ((Ap.apC p n t f c x y kp).cor),.own 5,.fr (Zb ((Ap.apC p n t f c x y kp).fa)),iv ((Ap.apC p n t f c x y kp).val)])]) (ofT 88 [(2,bx 1),(4,bF),(5,bx 3),(6,bx 6),(10,bT),(11,iv ((k+1):Nat))])
 exact Zp _ _
 refine Za (oW (oF (.own 4) (oB (Y7 (.tmp 57) rfl U24) I0 rfl (ol (dF hs4) (jI (jO (jC (jB (oS (iv 0) (kN 88 [(1,.box 33 (cFm p++(cSz n t f++Rd.cCg c))),(3,.box 31 [.fr (Zb c.sh),.fr (Zb c.st),iv c.cor,.fr (Zb c.se),.fr (Zb c.fa),iv c.val]),(4,.row true 3 1 ((Ap.apC p n t f c x y kp).st.length) (L.map iv)),(5,.row true 3 1 ((Ap.apC p n t f c x y kp).se.length) ((Ap.apC p n t f c x y kp).se.map iv)),(6,.box 31 [.fr (Zb ((Ap.apC p n t f c x y kp).sh)),.own 4,iv ((Ap.apC p n t f c x y kp).cor),.own 5,.fr (Zb ((Ap.apC p n t f c x y kp).fa)),iv ((Ap.apC p n t f c x y kp).val)])] [(2,bx 1),(4,bF),(5,bx 3),(6,bx 6),(10,bT),(12,iv 0)] (Ze (Zn ?_))))))))))))
 refine ZK (σ:={s:Nat × List Int // s.1≤(Ap.apC p n t f c x y kp).se.length∧s.2.length=(Ap.apC p n t f c x y kp).se.length}) (fun s=>(ofL [(1,.box 33 (cFm p++(cSz n t f++Rd.cCg c))),(3,.box 31 [.fr (Zb c.sh),.fr (Zb c.st),iv c.cor,.fr (Zb c.se),.fr (Zb c.fa),iv c.val]),(4,.row true 3 1 ((Ap.apC p n t f c x y kp).st.length) (L.map iv)),(5,.row true 3 1 ((Ap.apC p n t f c x y kp).se.length) (s.1.2.map iv)),(6,.box 31 [.fr (Zb ((Ap.apC p n t f c x y kp).sh)),.own 4,iv ((Ap.apC p n t f c x y kp).cor),.own 5,.fr (Zb ((Ap.apC p n t f c x y kp).fa)),iv ((Ap.apC p n t f c x y kp).val)])],ofT 88 [(2,bx 1),(4,bF),(5,bx 3),(6,bx 6),(10,bT),(12,iv s.1.1)])) (fun s=>(Ap.apC p n t f c x y kp).se.length-s.1.1) ⟨(0,(Ap.apC p n t f c x y kp).se),Nat.zero_le _,rfl⟩ (Zp _ _) (fun s => ?_)
 obtain ⟨⟨m,M⟩,hk0,hL⟩:=s
 show ETri J w0 (ofL [(1,.box 33 (cFm p++(cSz n t f++Rd.cCg c))),(3,.box 31 [.fr (Zb c.sh),.fr (Zb c.st),iv c.cor,.fr (Zb c.se),.fr (Zb c.fa),iv c.val]),(4,.row true 3 1 ((Ap.apC p n t f c x y kp).st.length) (L.map iv)),(5,.row true 3 1 ((Ap.apC p n t f c x y kp).se.length) (M.map iv)),(6,.box 31 [.fr (Zb ((Ap.apC p n t f c x y kp).sh)),.own 4,iv ((Ap.apC p n t f c x y kp).cor),.own 5,.fr (Zb ((Ap.apC p n t f c x y kp).fa)),iv ((Ap.apC p n t f c x y kp).val)])]) (ofT 88 [(2,bx 1),(4,bF),(5,bx 3),(6,bx 6),(10,bT),(12,iv m)]) _
 dsimp only at hk0 hL
 have hn:=(Pe.in_ap (x:=x) (y:=y) (k:=kp) (n:=n) (t:=t) (f:=f) (famLen hs1f) (Rd.cg_ok HI hs2f) HI).2.1.lse
 refine jM ?_
 by_cases hs5:(m:Int)<(((Ap.apC p n t f c x y kp).se.length:Nat):Int)
 refine Za (oW (oF (.own 5) (oB (Y7 (.tmp 68) rfl U24) I0 rfl (ol (dT hs5) (jH (Zq (jC (Zn (Za (oF (.own 5) (oS (iv m) (Yz rfl (Z5 (off:=m*1) (.tmp 74) (.tmp 75) rfl U24 (by kernel_rfl) (by omega) (by omega) rfl) ⟨I0,I0,T0⟩ ⟨rfl,T0⟩ T0 (Yz rfl (Yj (X:=iv 99) (off:=m*1) (cs:=(M.map iv)) (ds:=((M.set m 99).map iv)) (zz:=1) (.tmp 76) (.const (.int .i64 99)) rfl (by kernel_rfl) (by kernel_rfl) (fun _ d hd=>by simp only [AV.cellsOf,List.mem_cons,List.not_mem_nil,or_false] at hd;subst hd;rfl) (by kernel_rfl) (by simp;omega) Ra.set_row) ⟨I0,I0,T0⟩ ⟨rfl,T0⟩ rfl (Yi (Zv (Ze (Za (oS (iv m) (oV ((m+1:Nat):Int) (oS (iv (m+1:Nat)) ?_))))))))))))))))))))
 refine kN 88 [(1,.box 33 (cFm p++(cSz n t f++Rd.cCg c))),(3,.box 31 [.fr (Zb c.sh),.fr (Zb c.st),iv c.cor,.fr (Zb c.se),.fr (Zb c.fa),iv c.val]),(4,.row true 3 1 ((Ap.apC p n t f c x y kp).st.length) (L.map iv)),(5,.row true 3 1 ((Ap.apC p n t f c x y kp).se.length) ((M.set m 99).map iv)),(6,.box 31 [.fr (Zb ((Ap.apC p n t f c x y kp).sh)),.own 4,iv ((Ap.apC p n t f c x y kp).cor),.own 5,.fr (Zb ((Ap.apC p n t f c x y kp).fa)),iv ((Ap.apC p n t f c x y kp).val)])] [(2,bx 1),(4,bF),(5,bx 3),(6,bx 6),(10,bT),(12,iv (m+1:Nat)),(70,bT)] (Ze ?_)
 refine Zs ⟨(m+1,M.set m 99),by dsimp only;omega,by dsimp only;rw [List.length_set];exact hL⟩ (show (Ap.apC p n t f c x y kp).se.length-(m+1)<(Ap.apC p n t f c x y kp).se.length-m by omega) ?_
 show Wk _ _ (ofL [(1,.box 33 (cFm p++(cSz n t f++Rd.cCg c))),(3,.box 31 [.fr (Zb c.sh),.fr (Zb c.st),iv c.cor,.fr (Zb c.se),.fr (Zb c.fa),iv c.val]),(4,.row true 3 1 ((Ap.apC p n t f c x y kp).st.length) (L.map iv)),(5,.row true 3 1 ((Ap.apC p n t f c x y kp).se.length) ((M.set m 99).map iv)),(6,.box 31 [.fr (Zb ((Ap.apC p n t f c x y kp).sh)),.own 4,iv ((Ap.apC p n t f c x y kp).cor),.own 5,.fr (Zb ((Ap.apC p n t f c x y kp).fa)),iv ((Ap.apC p n t f c x y kp).val)])]) (ofT 88 [(2,bx 1),(4,bF),(5,bx 3),(6,bx 6),(10,bT),(12,iv ((m+1):Nat))])
 exact Zp _ _
 refine Za (oW (oF (.own 5) (oB (Y7 (.tmp 68) rfl U24) I0 rfl (ol (dF hs5) (jI (jO (jC (Za (oF bT (oW (oW (oW (oK (Rd.rCompare_c HI) [.agg [.fr (Zb c.sh),.fr (Zb c.st),iv c.cor,.fr (Zb c.se),.fr (Zb c.fa),iv c.val],.agg (Rd.cCg c)] rfl rfl (gC (ZF (r:=true) rfl (by decide)) I0 I0 (oF bT (oK Sh.zknown_c [] rfl rfl (oF bT ?_)))))))))))))))))
 refine jE ?_
 refine Zg Tryz.results3 (.tmp rfl) ?_
 exact rfl
 refine Za (oW (oW (oW (oW (oW (oW (oK (Apply_e HP (famLen hs1f) (Rd.cg_ok HI hs2f) hs3) [.agg (cFm p),.agg (cSz n t f),.agg [.fr (Zb c.sh),.fr (Zb c.st),iv c.cor,.fr (Zb c.se),.fr (Zb c.fa),iv c.val],.agg [iv x,iv y,iv kp]] rfl rfl (oS (.tup [.fr (.agg (Rd.cCg Ap.zC)),iv (Ap.apE p n t f c x y kp)]) (oS (.fr (.agg (Rd.cCg Ap.zC))) (oW (oZ 4 Z31 (Yz rfl (sB 6 6 (.tmp 33) (.agg [.fr (Zb Ap.zC.sh),.fr (Zb Ap.zC.st),iv Ap.zC.cor,.fr (Zb Ap.zC.se),.fr (Zb Ap.zC.fa),iv Ap.zC.val])) ⟨I0,.inr (.inr (.inl ⟨_,rfl,rfl⟩)),T0⟩ ⟨rfl,T0⟩ rfl (oS (iv (Ap.apE p n t f c x y kp)) (jD (Za (oW (oW (oW (oW (oW (oW ?_)))))))))))))))))))))
 refine oW (oK (rApply_e HP (famLen hs1f) (Rd.cg_ok HI hs2f) hs3) [.agg (cFm p),.agg (cSz n t f),.agg (Rd.cCg c),.agg [iv x,iv y,iv kp]] rfl rfl (oS (.tup [.fr (.agg (Rd.cCg Ap.zC)),iv (Ap.apE p n t f c x y kp)]) (oS (.fr (.agg (Rd.cCg Ap.zC))) (oW (oZ 5 Z31 (Yz rfl (sB 6 8 (.tmp 44) (.agg [.fr (Zb Ap.zC.sh),.fr (Zb Ap.zC.st),iv Ap.zC.cor,.fr (Zb Ap.zC.se),.fr (Zb Ap.zC.fa),iv Ap.zC.val])) ⟨I0,.inr (.inr (.inl ⟨_,rfl,rfl⟩)),T0⟩ ⟨rfl,T0⟩ rfl (oS (iv (Ap.apE p n t f c x y kp)) (jD (Za (oS (iv (Ap.apE p n t f c x y kp)) (oS (iv (Ap.apE p n t f c x y kp)) (oC (ZF rfl (dT rfl)) I0 I0 (oS bT (oW (oW (oK (Rd.rCompare_c Ap.zC_in) [.agg [.fr (Zb Ap.zC.sh),.fr (Zb Ap.zC.st),iv Ap.zC.cor,.fr (Zb Ap.zC.se),.fr (Zb Ap.zC.fa),iv Ap.zC.val],.agg [.fr (Zb Ap.zC.sh),.fr (Zb Ap.zC.st),iv Ap.zC.cor,.fr (Zb Ap.zC.se),.fr (Zb Ap.zC.fa),iv Ap.zC.val]] rfl rfl (gC (ZF (r:=true) rfl (by decide)) I0 I0 (oF bT (jD ?_)))))))))))))))))))
 refine jB (oS (iv 0) (kN 88 (ZaW p n t f c) [(2,bx 1),(4,bF),(5,bx 3),(6,bx 4),(10,bT),(11,iv 0)] (Ze (Zn ?_))))
 refine ZK (σ:={k:Nat // k=0}) (fun s=>(ofL (ZaW p n t f c),ofT 88 [(2,bx 1),(4,bF),(5,bx 3),(6,bx 4),(10,bT),(11,iv s.1)])) (fun s=>s.1) ⟨0,rfl⟩ (Zp _ _) (fun s => ?_)
 obtain ⟨k,hk0⟩:=s
 show ETri J w0 (ofL (ZaW p n t f c)) (ofT 88 [(2,bx 1),(4,bF),(5,bx 3),(6,bx 4),(10,bT),(11,iv k)]) _
 refine jM (Za (oS (iv k) (oF (.fr (Zb Ap.zC.st)) (Yz rfl (nLs 57 U24) ⟨.inr (.inl rfl),T0⟩ T0 T0 (oC (Za2 rfl (dF (by subst hk0;decide))) I0 I0 (jI (jO (jC (jB (oS (iv 0) (kN 88 (ZaW p n t f c) [(2,bx 1),(4,bF),(5,bx 3),(6,bx 4),(10,bT),(12,iv 0)] (Ze (Zn ?_)))))))))))))
 refine ZK (σ:={k:Nat // k=0}) (fun s=>(ofL (ZaW p n t f c),ofT 88 [(2,bx 1),(4,bF),(5,bx 3),(6,bx 4),(10,bT),(12,iv s.1)])) (fun s=>s.1) ⟨0,rfl⟩ (Zp _ _) (fun s => ?_)
 obtain ⟨k,hk0⟩:=s
 show ETri J w0 (ofL (ZaW p n t f c)) (ofT 88 [(2,bx 1),(4,bF),(5,bx 3),(6,bx 4),(10,bT),(12,iv k)]) _
 refine jM (Za (oS (iv k) (oF (.fr (Zb Ap.zC.se)) (Yz rfl (nLs 68 U24) ⟨.inr (.inl rfl),T0⟩ T0 T0 (oC (Za2 rfl (dF (by subst hk0;decide))) I0 I0 (jI (jO (jC (Za (oF bT (oW (oW (oW (oK (Rd.rCompare_c HI) [.agg [.fr (Zb c.sh),.fr (Zb c.st),iv c.cor,.fr (Zb c.se),.fr (Zb c.fa),iv c.val],.agg (Rd.cCg c)] rfl rfl (gC (ZF (r:=true) rfl (by decide)) I0 I0 (oF bT ?_))))))))))))))))
 refine oK Sh.zknown_c [] rfl rfl (oF bT (jE ?_))
 refine Zg Tryz.results3 (.tmp rfl) ?_
 exact rfl
variable {v:Value}
theorem Zau (w:World) (h:IsAt w v p n t f c) (_:I64 x) (_:I64 y) (_:I64 kp) :
 Calls Tryz.prog 3 #[v,.agg #[.int .i64 x,.int .i64 y,.int .i64 kp]] w fun e w'=>e = .returned (.bool true)∧Below w.heap.size w w':=by
 have hp:=Rd.at_pu h
 obtain ⟨fs,cs,_,hF,hC⟩:=h
 exact (ZdY (J:=fun _=>True) hF.ok (Rd.cf_in hC) w #[v,.agg #[.int .i64 x,.int .i64 y,.int .i64 kp]] (fun _ _=>T0) rfl fun j hj=>(match j,hj with
  | 0,_=>hp
  | 1,_ => .agg rfl fun j hj=>(match j,hj with | 0,_ => .v _ | 1,_ => .v _ | 2,_ => .v _))).mono fun _ _ ⟨_,he,hp,hb⟩=>⟨by rw [he,hp.v_inv],hb⟩
end Go.Proofs.YtdbehgbggaaipaaGreat
namespace Go.Proofs.YtdbehgbggaaipaaGreat
open Go.RowKit Go.Deep Go.ChangeShapes Go.WideShapes Go.ChangeAt Go.Joins
theorem cells_step:Tryz.prog.cellsOf 35=3:=by kernel_rfl
variable {w:World}
set_option maxRecDepth 100000 in
theorem Zdt {H:Type} {enc:TypeId × Value→H} {base:Nat} {sp:Nat→Bool} {held:Bool} {n:Nat} {cs:List Value} {x:DataW H × List MemPlace} (h:DataW.trod enc Tryz.prog w base sp held n 35 cs=some x) :
 ∃ c0 c1 c2,cs=[.int .i64 c0,.int .i64 c1,.int .i64 c2]∧I64 c0∧I64 c1∧I64 c2:=by
 obtain ⟨ys,m,_,_,hlen,_,hf⟩:=DataW.trod_struct Tryz.underlying35 h
 rw [cells_step] at hlen
 match cs,hlen with
 | [v0,v1,v2],_ =>
   have h0:DataW.trod enc Tryz.prog w base sp held m 3 (([v0,v1,v2].drop 0).take (Tryz.prog.cellsOf 3))=ys[0]? := hf 0 _ rfl
   have h1:DataW.trod enc Tryz.prog w base sp held m 3 (([v0,v1,v2].drop 1).take (Tryz.prog.cellsOf 3))=ys[1]? := hf 1 _ rfl
   have h2:DataW.trod enc Tryz.prog w base sp held m 3 (([v0,v1,v2].drop 2).take (Tryz.prog.cellsOf 3))=ys[2]? := hf 2 _ rfl
   rw [ZU] at h0 h1 h2
   simp only [List.drop_zero,List.take_succ_cons,List.take_zero] at h0
   simp only [List.drop_succ_cons,List.drop_zero,List.take_succ_cons,List.take_zero] at h1 h2
   have hx:∀ i,i<3→∃ y,ys[i]? = some y:=fun i hi=>⟨ys[i]'(by simp at *;omega),List.getElem?_eq_getElem _⟩
   obtain ⟨y0,e0⟩:=hx 0 (by omega)
   rw [e0] at h0
   obtain ⟨c0,rfl,q0⟩:=ZJ h0
   obtain ⟨y1,e1⟩:=hx 1 (by omega)
   rw [e1] at h1
   obtain ⟨c1,rfl,q1⟩:=ZJ h1
   obtain ⟨y2,e2⟩:=hx 2 (by omega)
   rw [e2] at h2
   obtain ⟨c2,rfl,q2⟩:=ZJ h2
   exact ⟨c0,c1,c2,rfl,q0,q1,q2⟩
variable {v:Value}
set_option maxRecDepth 100000 in
theorem arg_step {H:Type} {enc:TypeId × Value→H} {r:Reach} {b0:Nat} {d:DataW H} {p:List MemPlace} (hv:Value.okWide Tryz.prog w r b0 35 v) (h:DataW.Trod enc Tryz.prog w 0 (fun _=>true) true 35 v d p) :
 ∃ c0 c1 c2,v = .agg #[.int .i64 c0,.int .i64 c1,.int .i64 c2]∧I64 c0∧I64 c1∧I64 c2:=by
 obtain ⟨cs,rfl,_⟩:=okWide_struct Tryz.underlying35 hv
 obtain ⟨fuel,hf⟩:=h
 obtain ⟨c0,c1,c2,e,q⟩:=Zdt hf
 have e2:cs = #[.int .i64 c0,.int .i64 c1,.int .i64 c2]:=by obtain ⟨l⟩:=cs;simp [Value.cells] at e;simpa using e
 exact ⟨c0,c1,c2,by rw [e2],q⟩
end Go.Proofs.YtdbehgbggaaipaaGreat
