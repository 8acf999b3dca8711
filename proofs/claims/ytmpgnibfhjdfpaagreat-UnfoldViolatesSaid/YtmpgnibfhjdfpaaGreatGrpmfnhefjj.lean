import Derived.Test.YtmpgnibfhjdfpaaGreatGrpjhbplalh
import Derived.Test.YtmpgnibfhjdfpaaGreatGrpkcchpcmc
set_option linter.all false
namespace Go.Proofs.YtmpgnibfhjdfpaaGreat
open Go.RowKit Go.Deep
theorem RuEl.below {lo:Nat} {w w':World} {cs:List Value} {r:Ru} (h:RuEl lo w cs r) (hb:Below w.heap.size w w'):RuEl lo w' cs r:=by
 have t:=RuEl.stays
 unfold Stays at t
 exact t lo w w' cs r h hb
structure WIn (S:World->Prop) where
 val:World
 ok:S val
theorem KT {P:Program} {o:Oper} {a:Act} {C:World->Prop} {K:Act->Prop} {T:TypeId} {size:Nat} {fs:Array Field} (hu:P.underlying T=some (.struct fs)) (hi:(P.info? T).map (·.size)=some size) (x:Operand) (ho:o.op = .load T x)
 (b off:Nat) (cs:List Value) (hx:a.eval x = .pointer (some ⟨b,off,none⟩)) (hl:cs.length=size) (hc:∀ w,C w->w.rangeAt b off cs) (h:K (a.put o.dst (.agg cs.toArray))):o.quiet P a C K :=
 ⟨.agg cs.toArray,λw hw=>by
  unfold Oper.quietAt execOp
  simp only [ho,hx,Instr.loadAt,Instr.sureAddr,Sem.run_bind,Sem.run_pure,Result.andThen_ok,run_loadVar_mid w b off T cs _ (hc w hw) hu rfl (by rw [hl];exact hi)]
  exact ⟨rfl,rfl⟩,h⟩
instance instWIn (W:World):Nonempty (WIn (Below W.heap.size W)):=⟨⟨W.drew,drewBelow W⟩⟩
section
variable {P:Program} {id:Nat} {Q:Exit->Act->World->Prop} {a:Act} {W:World} {l:List Oper}
theorem wp_cls (hm:P.follows .mixedOrders=true) (hB:Region.lexB .any l.toArray=true)
 (h:wpQuiet P l.toArray (λw'=>∃ n:WIn (Below W.heap.size W),w'=n.val) (λa'=>∀ n:WIn (Below W.heap.size W),Q .normal a' n.val) l a):(Code.region id l.toArray true).wp P Q a W :=
 wp_region_quiet (C:=λw'=>∃ n:WIn (Below W.heap.size W),w'=n.val) hm hB ⟨⟨W.drew,drewBelow W⟩,rfl⟩ (by
  have:(λa'=>∀ n:WIn (Below W.heap.size W),Q .normal a' n.val)=(λa'=>∀ w',(∃ n:WIn (Below W.heap.size W),w'=n.val)->Q .normal a' w'):=by
   funext a';exact propext ⟨λh w' ⟨n,hn⟩=>hn ▸ h n,λh n=>h n.val ⟨n,rfl⟩⟩
  rw [this] at h
  simpa using h)
theorem Zbt (n:Nat) (hm:P.follows .mixedOrders=true) (hB:Region.lexTailB .any l.toArray n=true)
 (h:wpQuiet P l.toArray (λw'=>∃ n:WIn (Below W.heap.size W),w'=n.val) (λa'=>∀ m:WIn (Below W.heap.size W),wpList P l.toArray Q (l.drop n) a' m.val) (l.take n) a):(Code.region id l.toArray true).wp P Q a W :=
 ZcY n (λw'=>∃ n:WIn (Below W.heap.size W),w'=n.val) hm hB ⟨⟨W.drew,drewBelow W⟩,rfl⟩ (by
  have:(λa'=>∀ m:WIn (Below W.heap.size W),wpList P l.toArray Q (l.drop n) a' m.val)=(λa'=>∀ w',(∃ n:WIn (Below W.heap.size W),w'=n.val)->wpList P l.toArray Q (l.drop n) a' w'):=by
   funext a';exact propext ⟨λh w' ⟨n,hn⟩=>hn ▸ h n,λh n=>h n.val ⟨n,rfl⟩⟩
  rw [this] at h
  exact h)
theorem ZX (h:wpQuiet P l.toArray (λw'=>∃ n:WIn (Below W.heap.size W),w'=n.val) (λa'=>∀ n:WIn (Below W.heap.size W),Q .normal a' n.val) l a):(Code.region id l.toArray false).wp P Q a W :=
 wp_region_lit (WD (C:=λw'=>∃ n:WIn (Below W.heap.size W),w'=n.val) l a W ⟨⟨W,Below.refl _ _⟩,rfl⟩ (by
  have:(λa'=>∀ n:WIn (Below W.heap.size W),Q .normal a' n.val)=(λa'=>∀ w',(∃ n:WIn (Below W.heap.size W),w'=n.val)->Q .normal a' w'):=by
   funext a';exact propext ⟨λh w' ⟨n,hn⟩=>hn ▸ h n,λh n=>h n.val ⟨n,rfl⟩⟩
  rw [this] at h
  exact h))
end
end Go.Proofs.YtmpgnibfhjdfpaaGreat
