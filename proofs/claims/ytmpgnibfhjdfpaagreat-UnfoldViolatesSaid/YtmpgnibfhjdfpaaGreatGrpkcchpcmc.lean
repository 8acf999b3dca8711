import Derived.Deep.DeepCutAuto
import Derived.Outline
import Derived.Test.YtmpgnibfhjdfpaaGreatGrpjhbplalh
import Derived.Test.YtmpgnibfhjdfpaaGreatGrpaggajjjj
set_option linter.all false
namespace Go.Proofs.YtmpgnibfhjdfpaaGreat
open Go.RowKit Go.Deep Tryz
set_option maxHeartbeats 12800000
theorem Ww (lo:Nat) (w:World):IsInts lo w (.slice none 0 0) []:=⟨none,0,rfl,by simp,by simp [maxLen],by simp,.inl rfl⟩
theorem ths_nil (lo:Nat) (w:World):IsSl 6 ThEl lo w (.slice none 0 0) []:=⟨none,0,rfl,by simp,by simp [maxLen],by simp,.inl rfl⟩
theorem ZaF:(Tryz.prog.info? 79).map (·.size)=some 18:=by kernel_rfl
theorem Kx:I64 0:=by constructor<;>omega
theorem Zbd:I64 (-1):=by constructor<;>omega
theorem KW {lo:Nat} {w:World} {v:Value} {q:Fm} (h:IsFam lo w v q) :
 Calls Tryz.prog 91 #[v] w λe w'=>e = .returned (.bool (cliB q))/\Below w.heap.size w w':=by
 obtain ⟨v2,v3,v4,v6,v7,v8,v9,rfl,_,_,h2,h3,h4,_,h6,h7,h8,h9⟩:=h
 have E:Hid (cliB q=(decide (0<q.msgs.length)||decide (0<q.vals.length)||decide (0<q.res.length)||decide (q.fzz≠0))):=(rfl:cliB q=_)
 have b3:q.msgs.length<=9223372036854775807:=h3.bound
 have b4:q.vals.length<=9223372036854775807:=h4.bound
 have b6:q.res.length<=9223372036854775807:=h6.bound
 obtain ⟨a3,c3,rfl⟩:=h3.shape
 obtain ⟨a4,c4,rfl⟩:=h4.shape
 obtain ⟨a6,c6,rfl⟩:=h6.shape
 clear h2 h3 h4 h6 h7 h8 h9
 by_cases t0:0<q.msgs.length
 ·have it0:(0:Int)<(q.msgs.length:Int):=by omega
  go_enter func91,ntmps91
  go_wp2_with fail
  go_ret
  exact ⟨Zt (by rw [E.out,decide_eq_true t0];simp),Zm _ _⟩
 have it0:¬ (0:Int)<(q.msgs.length:Int):=by omega
 by_cases t1:0<q.vals.length
 ·have it1:(0:Int)<(q.vals.length:Int):=by omega
  go_enter func91,ntmps91
  go_wp2_with fail
  go_ret
  exact ⟨Zt (by rw [E.out,decide_eq_true t1];simp),Zm _ _⟩
 have it1:¬ (0:Int)<(q.vals.length:Int):=by omega
 by_cases t2:0<q.res.length
 ·have it2:(0:Int)<(q.res.length:Int):=by omega
  go_enter func91,ntmps91
  go_wp2_with fail
  go_ret
  exact ⟨Zt (by rw [E.out,decide_eq_true t2];simp),Zm _ _⟩
 have it2:¬ (0:Int)<(q.res.length:Int):=by omega
 by_cases t3:q.fzz=0
 ·have i3:(q.fzz != 0)=false:=by simpa using t3
  have T:=Lib.hid (And.intro t0 (And.intro t1 (And.intro t2 t3)))
  clear t3
  go_enter func91,ntmps91
  go_wp2_with fail
  go_ret
  exact ⟨Zt (by rw [E.out,decide_eq_false T.out.1,decide_eq_false T.out.2.1,decide_eq_false T.out.2.2.1,decide_eq_false (λh=>h T.out.2.2.2)];simp),Zm _ _⟩
 have i3:(q.fzz != 0)=true:=by simpa using t3
 have T:=Lib.hid t3
 clear t3
 go_enter func91,ntmps91
 go_wp2_with fail
 go_ret
 exact ⟨Zt (by rw [E.out,decide_eq_true T.out];simp),Zm _ _⟩
end Go.Proofs.YtmpgnibfhjdfpaaGreat
