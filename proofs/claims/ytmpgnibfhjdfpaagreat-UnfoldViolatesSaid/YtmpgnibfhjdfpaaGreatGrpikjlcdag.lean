import Derived.Lib.Hide
import Derived.Test.YtmpgnibfhjdfpaaGreatGrphhmpajpk
set_option linter.all false
namespace Go.Proofs.YtmpgnibfhjdfpaaGreat
open Go.RowKit Go.Deep Tryz
set_option maxHeartbeats 12800000
def linV (c n t f a b d:Int):Int:=wrap64 (wrap64 (wrap64 (c+wrap64 (n*a))+wrap64 (t*b))+wrap64 (f*d))
def evE (c n t f a b d:Int):Int:=if smL c n t f=false then 4 else if (paB a&&paB b&&paB d)=false then 8 else 0
def evN (c n t f a b d:Int):Int:=if evE c n t f a b d=0 then linV c n t f a b d else 0
theorem Kk (c n t f a b d:Int) (w:World) :
 Calls Tryz.prog 102 #[.agg #[.int .i64 c,.int .i64 n,.int .i64 t,.int .i64 f],.agg #[.int .i64 a,.int .i64 b,.int .i64 d]] w λe w'=>e = .returned (.int .i64 (linV c n t f a b d))/\Below w.heap.size w w':=by
 have E:=Lib.hid (show linV c n t f a b d=wrap64 (wrap64 (wrap64 (c+wrap64 (n*a))+wrap64 (t*b))+wrap64 (f*d)) from rfl)
 go_enter func102,ntmps102
 go_wp2_with fail
 go_ret
 exact ⟨ZA (by rw [E.out]),(Zm _ _).trans ((Zm _ _).mono (by simp))⟩
variable {a b c d:Int}
theorem ZbP (h:a=c) (k:b=d):Ending.returned (.tuple #[.int .i64 a,.int .i64 b]) = .returned (.tuple #[.int .i64 c,.int .i64 d]):=by rw [h,k]
theorem ZeY (c n t f a b d:Int) (w:World) :
 Calls Tryz.prog 55 #[.agg #[.int .i64 c,.int .i64 n,.int .i64 t,.int .i64 f],.agg #[.int .i64 a,.int .i64 b,.int .i64 d]] w λe w'=>e = .returned (.tuple #[.int .i64 (evN c n t f a b d),.int .i64 (evE c n t f a b d)])/\Below w.heap.size w w':=by
 have EN:=Lib.hid (show evN c n t f a b d=if evE c n t f a b d=0 then linV c n t f a b d else 0 from rfl)
 have EE:=Lib.hid (show evE c n t f a b d=if smL c n t f=false then 4 else if (paB a&&paB b&&paB d)=false then 8 else 0 from rfl)
 cases h1:smL c n t f with
 | false =>
   have E0:=Lib.hid (show evE c n t f a b d=4 by rw [EE.out,h1];rfl)
   go_enter func55,ntmps55
   go_wp2_with (first | (go_at_call 93;refine (YE _ _ _ _ _).mono ?_;rintro e w1 ⟨rfl,hb1⟩;have hB1:Below w.heap.size w w1:=(Below.trans (by go_grown) (hb1.mono (by go_size)));obtain ⟨p1,p2⟩:=blk hb1 (n:=w.heap.size) (by go_size);obtain ⟨p3,p4⟩:=blk hb1 (n:=w.heap.size+1) (by go_size);have hz1:w.heap.size+1<w1.heap.size:=(by have:=hb1.size;simp at this;omega);clear hb1) | (go_at_call 101;refine (YS _ _).mono ?_;rintro e w' ⟨rfl,rfl⟩) | (go_at_call 102;refine (Kk _ _ _ _ _ _ _ _).mono ?_;rintro e w2 ⟨rfl,hb2⟩))
   go_ret2
   exact ⟨ZbP (by rw [EN.out,E0.out];rfl) (by rw [E0.out]),hB1⟩
 | true =>
   cases h2:paB a with
   | false =>
     have E0:=Lib.hid (show evE c n t f a b d=8 by rw [EE.out,h1,h2];rfl)
     go_enter func55,ntmps55
     go_wp2_with (first | (go_at_call 93;refine (YE _ _ _ _ _).mono ?_;rintro e w1 ⟨rfl,hb1⟩;have hB1:Below w.heap.size w w1:=(Below.trans (by go_grown) (hb1.mono (by go_size)));obtain ⟨p1,p2⟩:=blk hb1 (n:=w.heap.size) (by go_size);obtain ⟨p3,p4⟩:=blk hb1 (n:=w.heap.size+1) (by go_size);have hz1:w.heap.size+1<w1.heap.size:=(by have:=hb1.size;simp at this;omega);clear hb1) | (go_at_call 101;refine (YS _ _).mono ?_;rintro e w' ⟨rfl,rfl⟩) | (go_at_call 102;refine (Kk _ _ _ _ _ _ _ _).mono ?_;rintro e w2 ⟨rfl,hb2⟩))
     go_ret2
     exact ⟨ZbP (by rw [EN.out,E0.out];rfl) (by rw [E0.out]),hB1⟩
   | true =>
     cases h3:paB b with
     | false =>
       have E0:=Lib.hid (show evE c n t f a b d=8 by rw [EE.out,h1,h2,h3];rfl)
       go_enter func55,ntmps55
       go_wp2_with (first | (go_at_call 93;refine (YE _ _ _ _ _).mono ?_;rintro e w1 ⟨rfl,hb1⟩;have hB1:Below w.heap.size w w1:=(Below.trans (by go_grown) (hb1.mono (by go_size)));obtain ⟨p1,p2⟩:=blk hb1 (n:=w.heap.size) (by go_size);obtain ⟨p3,p4⟩:=blk hb1 (n:=w.heap.size+1) (by go_size);have hz1:w.heap.size+1<w1.heap.size:=(by have:=hb1.size;simp at this;omega);clear hb1) | (go_at_call 101;refine (YS _ _).mono ?_;rintro e w' ⟨rfl,rfl⟩) | (go_at_call 102;refine (Kk _ _ _ _ _ _ _ _).mono ?_;rintro e w2 ⟨rfl,hb2⟩))
       go_ret2
       exact ⟨ZbP (by rw [EN.out,E0.out];rfl) (by rw [E0.out]),hB1⟩
     | true =>
       cases h4:paB d with
       | false =>
         have E0:=Lib.hid (show evE c n t f a b d=8 by rw [EE.out,h1,h2,h3,h4];rfl)
         go_enter func55,ntmps55
         go_wp2_with (first | (go_at_call 93;refine (YE _ _ _ _ _).mono ?_;rintro e w1 ⟨rfl,hb1⟩;have hB1:Below w.heap.size w w1:=(Below.trans (by go_grown) (hb1.mono (by go_size)));obtain ⟨p1,p2⟩:=blk hb1 (n:=w.heap.size) (by go_size);obtain ⟨p3,p4⟩:=blk hb1 (n:=w.heap.size+1) (by go_size);have hz1:w.heap.size+1<w1.heap.size:=(by have:=hb1.size;simp at this;omega);clear hb1) | (go_at_call 101;refine (YS _ _).mono ?_;rintro e w' ⟨rfl,rfl⟩) | (go_at_call 102;refine (Kk _ _ _ _ _ _ _ _).mono ?_;rintro e w2 ⟨rfl,hb2⟩))
         go_ret2
         exact ⟨ZbP (by rw [EN.out,E0.out];rfl) (by rw [E0.out]),hB1⟩
       | true =>
         have E0:=Lib.hid (show evE c n t f a b d=0 by rw [EE.out,h1,h2,h3,h4];rfl)
         go_enter func55,ntmps55
         go_wp2_with (first | (go_at_call 93;refine (YE _ _ _ _ _).mono ?_;rintro e w1 ⟨rfl,hb1⟩;have hB1:Below w.heap.size w w1:=(Below.trans (by go_grown) (hb1.mono (by go_size)));obtain ⟨p1,p2⟩:=blk hb1 (n:=w.heap.size) (by go_size);obtain ⟨p3,p4⟩:=blk hb1 (n:=w.heap.size+1) (by go_size);have hz1:w.heap.size+1<w1.heap.size:=(by have:=hb1.size;simp at this;omega);clear hb1) | (go_at_call 101;refine (YS _ _).mono ?_;rintro e w' ⟨rfl,rfl⟩) | (go_at_call 102;refine (Kk _ _ _ _ _ _ _ _).mono ?_;rintro e w2 ⟨rfl,hb2⟩))
         go_ret2
         exact ⟨ZbP (by rw [EN.out,E0.out];rfl) (by rw [E0.out]),Zq hB1 hb2⟩
theorem Y7 (c n t f a b d:Int) (w:World) :
 Calls Tryz.prog 112 #[.agg #[.int .i64 c,.int .i64 n,.int .i64 t,.int .i64 f],.agg #[.int .i64 a,.int .i64 b,.int .i64 d]] w λe w'=>e = .returned (.int .i64 (linV c n t f a b d))/\Below w.heap.size w w':=by
 have E:=Lib.hid (show linV c n t f a b d=wrap64 (wrap64 (wrap64 (c+wrap64 (n*a))+wrap64 (t*b))+wrap64 (f*d)) from rfl)
 go_enter func112,ntmps112
 go_wp2_with fail
 go_ret
 exact ⟨ZA (by rw [E.out]),(Zm _ _).trans ((Zm _ _).mono (by simp))⟩
theorem Zax (h:a=c) (k:b=d):Ending.returned (.tuple #[.int .i64 a,.int .i64 b]) = .returned (.tuple #[.int .i64 c,.int .i64 d]):=by rw [h,k]
theorem Zdf (c n t f a b d:Int) (w:World) :
 Calls Tryz.prog 127 #[.agg #[.int .i64 c,.int .i64 n,.int .i64 t,.int .i64 f],.agg #[.int .i64 a,.int .i64 b,.int .i64 d]] w λe w'=>e = .returned (.tuple #[.int .i64 (evN c n t f a b d),.int .i64 (evE c n t f a b d)])/\Below w.heap.size w w':=by
 have EN:=Lib.hid (show evN c n t f a b d=if evE c n t f a b d=0 then linV c n t f a b d else 0 from rfl)
 have EE:=Lib.hid (show evE c n t f a b d=if smL c n t f=false then 4 else if (paB a&&paB b&&paB d)=false then 8 else 0 from rfl)
 cases h1:smL c n t f with
 | false =>
   have E0:=Lib.hid (show evE c n t f a b d=4 by rw [EE.out,h1];rfl)
   go_enter func127,ntmps127
   go_wp2_with (first | (go_at_call 108;refine (ZaT _ _ _ _ _).mono ?_;rintro e w1 ⟨rfl,hb1⟩;have hB1:Below w.heap.size w w1:=(Below.trans (by go_grown) (hb1.mono (by go_size)));obtain ⟨p1,p2⟩:=blk hb1 (n:=w.heap.size) (by go_size);obtain ⟨p3,p4⟩:=blk hb1 (n:=w.heap.size+1) (by go_size);have hz1:w.heap.size+1<w1.heap.size:=(by have:=hb1.size;simp at this;omega);clear hb1) | (go_at_call 74;refine (WG _ _).mono ?_;rintro e w' ⟨rfl,rfl⟩) | (go_at_call 112;refine (Y7 _ _ _ _ _ _ _ _).mono ?_;rintro e w2 ⟨rfl,hb2⟩))
   go_ret2
   exact ⟨Zax (by rw [EN.out,E0.out];rfl) (by rw [E0.out]),hB1⟩
 | true =>
   cases h2:paB a with
   | false =>
     have E0:=Lib.hid (show evE c n t f a b d=8 by rw [EE.out,h1,h2];rfl)
     go_enter func127,ntmps127
     go_wp2_with (first | (go_at_call 108;refine (ZaT _ _ _ _ _).mono ?_;rintro e w1 ⟨rfl,hb1⟩;have hB1:Below w.heap.size w w1:=(Below.trans (by go_grown) (hb1.mono (by go_size)));obtain ⟨p1,p2⟩:=blk hb1 (n:=w.heap.size) (by go_size);obtain ⟨p3,p4⟩:=blk hb1 (n:=w.heap.size+1) (by go_size);have hz1:w.heap.size+1<w1.heap.size:=(by have:=hb1.size;simp at this;omega);clear hb1) | (go_at_call 74;refine (WG _ _).mono ?_;rintro e w' ⟨rfl,rfl⟩) | (go_at_call 112;refine (Y7 _ _ _ _ _ _ _ _).mono ?_;rintro e w2 ⟨rfl,hb2⟩))
     go_ret2
     exact ⟨Zax (by rw [EN.out,E0.out];rfl) (by rw [E0.out]),hB1⟩
   | true =>
     cases h3:paB b with
     | false =>
       have E0:=Lib.hid (show evE c n t f a b d=8 by rw [EE.out,h1,h2,h3];rfl)
       go_enter func127,ntmps127
       go_wp2_with (first | (go_at_call 108;refine (ZaT _ _ _ _ _).mono ?_;rintro e w1 ⟨rfl,hb1⟩;have hB1:Below w.heap.size w w1:=(Below.trans (by go_grown) (hb1.mono (by go_size)));obtain ⟨p1,p2⟩:=blk hb1 (n:=w.heap.size) (by go_size);obtain ⟨p3,p4⟩:=blk hb1 (n:=w.heap.size+1) (by go_size);have hz1:w.heap.size+1<w1.heap.size:=(by have:=hb1.size;simp at this;omega);clear hb1) | (go_at_call 74;refine (WG _ _).mono ?_;rintro e w' ⟨rfl,rfl⟩) | (go_at_call 112;refine (Y7 _ _ _ _ _ _ _ _).mono ?_;rintro e w2 ⟨rfl,hb2⟩))
       go_ret2
       exact ⟨Zax (by rw [EN.out,E0.out];rfl) (by rw [E0.out]),hB1⟩
     | true =>
       cases h4:paB d with
       | false =>
         have E0:=Lib.hid (show evE c n t f a b d=8 by rw [EE.out,h1,h2,h3,h4];rfl)
         go_enter func127,ntmps127
         go_wp2_with (first | (go_at_call 108;refine (ZaT _ _ _ _ _).mono ?_;rintro e w1 ⟨rfl,hb1⟩;have hB1:Below w.heap.size w w1:=(Below.trans (by go_grown) (hb1.mono (by go_size)));obtain ⟨p1,p2⟩:=blk hb1 (n:=w.heap.size) (by go_size);obtain ⟨p3,p4⟩:=blk hb1 (n:=w.heap.size+1) (by go_size);have hz1:w.heap.size+1<w1.heap.size:=(by have:=hb1.size;simp at this;omega);clear hb1) | (go_at_call 74;refine (WG _ _).mono ?_;rintro e w' ⟨rfl,rfl⟩) | (go_at_call 112;refine (Y7 _ _ _ _ _ _ _ _).mono ?_;rintro e w2 ⟨rfl,hb2⟩))
         go_ret2
         exact ⟨Zax (by rw [EN.out,E0.out];rfl) (by rw [E0.out]),hB1⟩
       | true =>
         have E0:=Lib.hid (show evE c n t f a b d=0 by rw [EE.out,h1,h2,h3,h4];rfl)
         go_enter func127,ntmps127
         go_wp2_with (first | (go_at_call 108;refine (ZaT _ _ _ _ _).mono ?_;rintro e w1 ⟨rfl,hb1⟩;have hB1:Below w.heap.size w w1:=(Below.trans (by go_grown) (hb1.mono (by go_size)));obtain ⟨p1,p2⟩:=blk hb1 (n:=w.heap.size) (by go_size);obtain ⟨p3,p4⟩:=blk hb1 (n:=w.heap.size+1) (by go_size);have hz1:w.heap.size+1<w1.heap.size:=(by have:=hb1.size;simp at this;omega);clear hb1) | (go_at_call 74;refine (WG _ _).mono ?_;rintro e w' ⟨rfl,rfl⟩) | (go_at_call 112;refine (Y7 _ _ _ _ _ _ _ _).mono ?_;rintro e w2 ⟨rfl,hb2⟩))
         go_ret2
         exact ⟨Zax (by rw [EN.out,E0.out];rfl) (by rw [E0.out]),Zq hB1 hb2⟩
end Go.Proofs.YtmpgnibfhjdfpaaGreat
