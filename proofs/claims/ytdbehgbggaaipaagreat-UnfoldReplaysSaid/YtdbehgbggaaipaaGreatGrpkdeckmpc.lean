import Derived.Lib.Hide
import Derived.Test.YtdbehgbggaaipaaGreatGrpblcpooha
set_option linter.all false
namespace Go.Proofs.YtdbehgbggaaipaaGreat
open Go.RowKit Go.Deep
set_option maxHeartbeats 12800000
def linV (c n t f a b d:Int):Int:=wrap64 (wrap64 (wrap64 (c+wrap64 (n*a))+wrap64 (t*b))+wrap64 (f*d))
def evE (c n t f a b d:Int):Int:=if smL c n t f=false then 4 else if (paB a&&paB b&&paB d)=false then 8 else 0
def evN (c n t f a b d:Int):Int:=if evE c n t f a b d=0 then linV c n t f a b d else 0
theorem Yg (c n t f a b d:Int) (w:World) :
 Calls Tryz.prog 84 #[.agg #[.int .i64 c,.int .i64 n,.int .i64 t,.int .i64 f],.agg #[.int .i64 a,.int .i64 b,.int .i64 d]] w fun e w'=>e = .returned (.int .i64 (linV c n t f a b d))∧Below w.heap.size w w':=by
 have E:=Lib.hid (show linV c n t f a b d=wrap64 (wrap64 (wrap64 (c+wrap64 (n*a))+wrap64 (t*b))+wrap64 (f*d)) from rfl)
 go_enter Tryz.func84,Tryz.ntmps84
 go_wp2_with fail
 go_ret
 exact ⟨Zt (by rw [E.out]),(Zd _ _).trans ((Zd _ _).mono (by simp))⟩
variable {a b c d:Int}
theorem ZbC (h:a=c) (k:b=d):Ending.returned (.tuple #[.int .i64 a,.int .i64 b]) = .returned (.tuple #[.int .i64 c,.int .i64 d]):=by rw [h,k]
theorem Zex (c n t f a b d:Int) (w:World) :
 Calls Tryz.prog 48 #[.agg #[.int .i64 c,.int .i64 n,.int .i64 t,.int .i64 f],.agg #[.int .i64 a,.int .i64 b,.int .i64 d]] w fun e w'=>e = .returned (.tuple #[.int .i64 (evN c n t f a b d),.int .i64 (evE c n t f a b d)])∧Below w.heap.size w w':=by
 have EN:=Lib.hid (show evN c n t f a b d=if evE c n t f a b d=0 then linV c n t f a b d else 0 from rfl)
 have EE:=Lib.hid (show evE c n t f a b d=if smL c n t f=false then 4 else if (paB a&&paB b&&paB d)=false then 8 else 0 from rfl)
 cases h1:smL c n t f with
 | false =>
   have E0:=Lib.hid (show evE c n t f a b d=4 by rw [EE.out,h1];rfl)
   go_enter Tryz.func48,Tryz.ntmps48
   go_wp2_with (first | (go_at_call 76;refine (YF _ _ _ _ _).mono ?_;rintro e w1 ⟨rfl,hb1⟩;have hB1:Below w.heap.size w w1:=(Below.trans (by go_grown) (hb1.mono (by go_size)));obtain ⟨p1,p2⟩:=blk hb1 (n:=w.heap.size) (by go_size);obtain ⟨p3,p4⟩:=blk hb1 (n:=w.heap.size+1) (by go_size);have hz1:w.heap.size+1<w1.heap.size:=(by have:=hb1.size;simp at this;omega);clear hb1) | (go_at_call 83;refine (YW _ _).mono ?_;rintro e w' ⟨rfl,rfl⟩) | (go_at_call 84;refine (Yg _ _ _ _ _ _ _ _).mono ?_;rintro e w2 ⟨rfl,hb2⟩))
   go_ret2
   exact ⟨ZbC (by rw [EN.out,E0.out];rfl) (by rw [E0.out]),hB1⟩
 | true =>
   cases h2:paB a with
   | false =>
     have E0:=Lib.hid (show evE c n t f a b d=8 by rw [EE.out,h1,h2];rfl)
     go_enter Tryz.func48,Tryz.ntmps48
     go_wp2_with (first | (go_at_call 76;refine (YF _ _ _ _ _).mono ?_;rintro e w1 ⟨rfl,hb1⟩;have hB1:Below w.heap.size w w1:=(Below.trans (by go_grown) (hb1.mono (by go_size)));obtain ⟨p1,p2⟩:=blk hb1 (n:=w.heap.size) (by go_size);obtain ⟨p3,p4⟩:=blk hb1 (n:=w.heap.size+1) (by go_size);have hz1:w.heap.size+1<w1.heap.size:=(by have:=hb1.size;simp at this;omega);clear hb1) | (go_at_call 83;refine (YW _ _).mono ?_;rintro e w' ⟨rfl,rfl⟩) | (go_at_call 84;refine (Yg _ _ _ _ _ _ _ _).mono ?_;rintro e w2 ⟨rfl,hb2⟩))
     go_ret2
     exact ⟨ZbC (by rw [EN.out,E0.out];rfl) (by rw [E0.out]),hB1⟩
   | true =>
     cases h3:paB b with
     | false =>
       have E0:=Lib.hid (show evE c n t f a b d=8 by rw [EE.out,h1,h2,h3];rfl)
       go_enter Tryz.func48,Tryz.ntmps48
       go_wp2_with (first | (go_at_call 76;refine (YF _ _ _ _ _).mono ?_;rintro e w1 ⟨rfl,hb1⟩;have hB1:Below w.heap.size w w1:=(Below.trans (by go_grown) (hb1.mono (by go_size)));obtain ⟨p1,p2⟩:=blk hb1 (n:=w.heap.size) (by go_size);obtain ⟨p3,p4⟩:=blk hb1 (n:=w.heap.size+1) (by go_size);have hz1:w.heap.size+1<w1.heap.size:=(by have:=hb1.size;simp at this;omega);clear hb1) | (go_at_call 83;refine (YW _ _).mono ?_;rintro e w' ⟨rfl,rfl⟩) | (go_at_call 84;refine (Yg _ _ _ _ _ _ _ _).mono ?_;rintro e w2 ⟨rfl,hb2⟩))
       go_ret2
       exact ⟨ZbC (by rw [EN.out,E0.out];rfl) (by rw [E0.out]),hB1⟩
     | true =>
       cases h4:paB d with
       | false =>
         have E0:=Lib.hid (show evE c n t f a b d=8 by rw [EE.out,h1,h2,h3,h4];rfl)
         go_enter Tryz.func48,Tryz.ntmps48
         go_wp2_with (first | (go_at_call 76;refine (YF _ _ _ _ _).mono ?_;rintro e w1 ⟨rfl,hb1⟩;have hB1:Below w.heap.size w w1:=(Below.trans (by go_grown) (hb1.mono (by go_size)));obtain ⟨p1,p2⟩:=blk hb1 (n:=w.heap.size) (by go_size);obtain ⟨p3,p4⟩:=blk hb1 (n:=w.heap.size+1) (by go_size);have hz1:w.heap.size+1<w1.heap.size:=(by have:=hb1.size;simp at this;omega);clear hb1) | (go_at_call 83;refine (YW _ _).mono ?_;rintro e w' ⟨rfl,rfl⟩) | (go_at_call 84;refine (Yg _ _ _ _ _ _ _ _).mono ?_;rintro e w2 ⟨rfl,hb2⟩))
         go_ret2
         exact ⟨ZbC (by rw [EN.out,E0.out];rfl) (by rw [E0.out]),hB1⟩
       | true =>
         have E0:=Lib.hid (show evE c n t f a b d=0 by rw [EE.out,h1,h2,h3,h4];rfl)
         go_enter Tryz.func48,Tryz.ntmps48
         go_wp2_with (first | (go_at_call 76;refine (YF _ _ _ _ _).mono ?_;rintro e w1 ⟨rfl,hb1⟩;have hB1:Below w.heap.size w w1:=(Below.trans (by go_grown) (hb1.mono (by go_size)));obtain ⟨p1,p2⟩:=blk hb1 (n:=w.heap.size) (by go_size);obtain ⟨p3,p4⟩:=blk hb1 (n:=w.heap.size+1) (by go_size);have hz1:w.heap.size+1<w1.heap.size:=(by have:=hb1.size;simp at this;omega);clear hb1) | (go_at_call 83;refine (YW _ _).mono ?_;rintro e w' ⟨rfl,rfl⟩) | (go_at_call 84;refine (Yg _ _ _ _ _ _ _ _).mono ?_;rintro e w2 ⟨rfl,hb2⟩))
         go_ret2
         exact ⟨ZbC (by rw [EN.out,E0.out];rfl) (by rw [E0.out]),Ze hB1 hb2⟩
theorem Y9 (c n t f a b d:Int) (w:World) :
 Calls Tryz.prog 96 #[.agg #[.int .i64 c,.int .i64 n,.int .i64 t,.int .i64 f],.agg #[.int .i64 a,.int .i64 b,.int .i64 d]] w fun e w'=>e = .returned (.int .i64 (linV c n t f a b d))∧Below w.heap.size w w':=by
 have E:=Lib.hid (show linV c n t f a b d=wrap64 (wrap64 (wrap64 (c+wrap64 (n*a))+wrap64 (t*b))+wrap64 (f*d)) from rfl)
 go_enter Tryz.func96,Tryz.ntmps96
 go_wp2_with fail
 go_ret
 exact ⟨Zt (by rw [E.out]),(Zd _ _).trans ((Zd _ _).mono (by simp))⟩
theorem ZaB (h:a=c) (k:b=d):Ending.returned (.tuple #[.int .i64 a,.int .i64 b]) = .returned (.tuple #[.int .i64 c,.int .i64 d]):=by rw [h,k]
theorem ZcR (c n t f a b d:Int) (w:World) :
 Calls Tryz.prog 67 #[.agg #[.int .i64 c,.int .i64 n,.int .i64 t,.int .i64 f],.agg #[.int .i64 a,.int .i64 b,.int .i64 d]] w fun e w'=>e = .returned (.tuple #[.int .i64 (evN c n t f a b d),.int .i64 (evE c n t f a b d)])∧Below w.heap.size w w':=by
 have EN:=Lib.hid (show evN c n t f a b d=if evE c n t f a b d=0 then linV c n t f a b d else 0 from rfl)
 have EE:=Lib.hid (show evE c n t f a b d=if smL c n t f=false then 4 else if (paB a&&paB b&&paB d)=false then 8 else 0 from rfl)
 cases h1:smL c n t f with
 | false =>
   have E0:=Lib.hid (show evE c n t f a b d=4 by rw [EE.out,h1];rfl)
   go_enter Tryz.func67,Tryz.ntmps67
   go_wp2_with (first | (go_at_call 92;refine (ZaR _ _ _ _ _).mono ?_;rintro e w1 ⟨rfl,hb1⟩;have hB1:Below w.heap.size w w1:=(Below.trans (by go_grown) (hb1.mono (by go_size)));obtain ⟨p1,p2⟩:=blk hb1 (n:=w.heap.size) (by go_size);obtain ⟨p3,p4⟩:=blk hb1 (n:=w.heap.size+1) (by go_size);have hz1:w.heap.size+1<w1.heap.size:=(by have:=hb1.size;simp at this;omega);clear hb1) | (go_at_call 90;refine (WQ _ _).mono ?_;rintro e w' ⟨rfl,rfl⟩) | (go_at_call 96;refine (Y9 _ _ _ _ _ _ _ _).mono ?_;rintro e w2 ⟨rfl,hb2⟩))
   go_ret2
   exact ⟨ZaB (by rw [EN.out,E0.out];rfl) (by rw [E0.out]),hB1⟩
 | true =>
   cases h2:paB a with
   | false =>
     have E0:=Lib.hid (show evE c n t f a b d=8 by rw [EE.out,h1,h2];rfl)
     go_enter Tryz.func67,Tryz.ntmps67
     go_wp2_with (first | (go_at_call 92;refine (ZaR _ _ _ _ _).mono ?_;rintro e w1 ⟨rfl,hb1⟩;have hB1:Below w.heap.size w w1:=(Below.trans (by go_grown) (hb1.mono (by go_size)));obtain ⟨p1,p2⟩:=blk hb1 (n:=w.heap.size) (by go_size);obtain ⟨p3,p4⟩:=blk hb1 (n:=w.heap.size+1) (by go_size);have hz1:w.heap.size+1<w1.heap.size:=(by have:=hb1.size;simp at this;omega);clear hb1) | (go_at_call 90;refine (WQ _ _).mono ?_;rintro e w' ⟨rfl,rfl⟩) | (go_at_call 96;refine (Y9 _ _ _ _ _ _ _ _).mono ?_;rintro e w2 ⟨rfl,hb2⟩))
     go_ret2
     exact ⟨ZaB (by rw [EN.out,E0.out];rfl) (by rw [E0.out]),hB1⟩
   | true =>
     cases h3:paB b with
     | false =>
       have E0:=Lib.hid (show evE c n t f a b d=8 by rw [EE.out,h1,h2,h3];rfl)
       go_enter Tryz.func67,Tryz.ntmps67
       go_wp2_with (first | (go_at_call 92;refine (ZaR _ _ _ _ _).mono ?_;rintro e w1 ⟨rfl,hb1⟩;have hB1:Below w.heap.size w w1:=(Below.trans (by go_grown) (hb1.mono (by go_size)));obtain ⟨p1,p2⟩:=blk hb1 (n:=w.heap.size) (by go_size);obtain ⟨p3,p4⟩:=blk hb1 (n:=w.heap.size+1) (by go_size);have hz1:w.heap.size+1<w1.heap.size:=(by have:=hb1.size;simp at this;omega);clear hb1) | (go_at_call 90;refine (WQ _ _).mono ?_;rintro e w' ⟨rfl,rfl⟩) | (go_at_call 96;refine (Y9 _ _ _ _ _ _ _ _).mono ?_;rintro e w2 ⟨rfl,hb2⟩))
       go_ret2
       exact ⟨ZaB (by rw [EN.out,E0.out];rfl) (by rw [E0.out]),hB1⟩
     | true =>
       cases h4:paB d with
       | false =>
         have E0:=Lib.hid (show evE c n t f a b d=8 by rw [EE.out,h1,h2,h3,h4];rfl)
         go_enter Tryz.func67,Tryz.ntmps67
         go_wp2_with (first | (go_at_call 92;refine (ZaR _ _ _ _ _).mono ?_;rintro e w1 ⟨rfl,hb1⟩;have hB1:Below w.heap.size w w1:=(Below.trans (by go_grown) (hb1.mono (by go_size)));obtain ⟨p1,p2⟩:=blk hb1 (n:=w.heap.size) (by go_size);obtain ⟨p3,p4⟩:=blk hb1 (n:=w.heap.size+1) (by go_size);have hz1:w.heap.size+1<w1.heap.size:=(by have:=hb1.size;simp at this;omega);clear hb1) | (go_at_call 90;refine (WQ _ _).mono ?_;rintro e w' ⟨rfl,rfl⟩) | (go_at_call 96;refine (Y9 _ _ _ _ _ _ _ _).mono ?_;rintro e w2 ⟨rfl,hb2⟩))
         go_ret2
         exact ⟨ZaB (by rw [EN.out,E0.out];rfl) (by rw [E0.out]),hB1⟩
       | true =>
         have E0:=Lib.hid (show evE c n t f a b d=0 by rw [EE.out,h1,h2,h3,h4];rfl)
         go_enter Tryz.func67,Tryz.ntmps67
         go_wp2_with (first | (go_at_call 92;refine (ZaR _ _ _ _ _).mono ?_;rintro e w1 ⟨rfl,hb1⟩;have hB1:Below w.heap.size w w1:=(Below.trans (by go_grown) (hb1.mono (by go_size)));obtain ⟨p1,p2⟩:=blk hb1 (n:=w.heap.size) (by go_size);obtain ⟨p3,p4⟩:=blk hb1 (n:=w.heap.size+1) (by go_size);have hz1:w.heap.size+1<w1.heap.size:=(by have:=hb1.size;simp at this;omega);clear hb1) | (go_at_call 90;refine (WQ _ _).mono ?_;rintro e w' ⟨rfl,rfl⟩) | (go_at_call 96;refine (Y9 _ _ _ _ _ _ _ _).mono ?_;rintro e w2 ⟨rfl,hb2⟩))
         go_ret2
         exact ⟨ZaB (by rw [EN.out,E0.out];rfl) (by rw [E0.out]),Ze hB1 hb2⟩
end Go.Proofs.YtdbehgbggaaipaaGreat
