import Derived.Test.YthefecaefbeidaaGreatGrphfkbjlgf
import Derived.Test.YthefecaefbeidaaGreatGrpbnmgbgdd
set_option linter.all false
namespace Go.Proofs.YthefecaefbeidaaGreat
open Go.RowKit Go.Deep
theorem RuEl.below {lo:Nat} {w w':World} {cs:List Value} {r:Ru} (h:RuEl lo w cs r) (hb:Below w.heap.size w w'):RuEl lo w' cs r:=by
 have t:=RuEl.stays
 unfold Stays at t
 exact t lo w w' cs r h hb
structure WIn (S:World→Prop) where
 val:World
 ok:S val
theorem YE {P:Program} {o:Oper} {a:Act} {C:World→Prop} {K:Act→Prop} {T:TypeId} {size:Nat} {fs:Array Field} (hu:P.underlying T=some (.struct fs)) (hi:(P.info? T).map (·.size)=some size) (x:Operand) (ho:o.op = .load T x)
 (b off:Nat) (cs:List Value) (hx:a.eval x = .pointer (some ⟨b,off,none⟩)) (hl:cs.length=size) (hc:∀ w,C w→w.rangeAt b off cs) (h:K (a.put o.dst (.agg cs.toArray))):o.quiet P a C K :=
 ⟨.agg cs.toArray,fun w hw=>by
  unfold Oper.quietAt execOp
  simp only [ho,hx,Instr.loadAt,Instr.sureAddr,Sem.run_bind,Sem.run_pure,Result.andThen_ok,run_loadVar_mid w b off T cs _ (hc w hw) hu rfl (by rw [hl];exact hi)]
  exact ⟨rfl,rfl⟩,h⟩
instance instWIn (W:World):Nonempty (WIn (Below W.heap.size W)):=⟨⟨W.drew,drewBelow W⟩⟩
section
variable {P:Program} {id:Nat} {Q:Exit→Act→World→Prop} {a:Act} {W:World} {l:List Oper}
theorem wp_cls (hm:P.follows .mixedOrders=true) (hB:Region.lexB .any l.toArray=true)
 (h:wpQuiet P l.toArray (fun w'=>∃ n:WIn (Below W.heap.size W),w'=n.val) (fun a'=>∀ n:WIn (Below W.heap.size W),Q .normal a' n.val) l a):(Code.region id l.toArray true).wp P Q a W :=
 wp_region_quiet (C:=fun w'=>∃ n:WIn (Below W.heap.size W),w'=n.val) hm hB ⟨⟨W.drew,drewBelow W⟩,rfl⟩ (by
  have:(fun a'=>∀ n:WIn (Below W.heap.size W),Q .normal a' n.val)=(fun a'=>∀ w',(∃ n:WIn (Below W.heap.size W),w'=n.val)→Q .normal a' w'):=by
   funext a';exact propext ⟨fun h w' ⟨n,hn⟩=>hn ▸ h n,fun h n=>h n.val ⟨n,rfl⟩⟩
  rw [this] at h
  simpa using h)
theorem Ya (n:Nat) (hm:P.follows .mixedOrders=true) (hB:Region.lexTailB .any l.toArray n=true)
 (h:wpQuiet P l.toArray (fun w'=>∃ n:WIn (Below W.heap.size W),w'=n.val) (fun a'=>∀ m:WIn (Below W.heap.size W),wpList P l.toArray Q (l.drop n) a' m.val) (l.take n) a):(Code.region id l.toArray true).wp P Q a W :=
 Zba n (fun w'=>∃ n:WIn (Below W.heap.size W),w'=n.val) hm hB ⟨⟨W.drew,drewBelow W⟩,rfl⟩ (by
  have:(fun a'=>∀ m:WIn (Below W.heap.size W),wpList P l.toArray Q (l.drop n) a' m.val)=(fun a'=>∀ w',(∃ n:WIn (Below W.heap.size W),w'=n.val)→wpList P l.toArray Q (l.drop n) a' w'):=by
   funext a';exact propext ⟨fun h w' ⟨n,hn⟩=>hn ▸ h n,fun h n=>h n.val ⟨n,rfl⟩⟩
  rw [this] at h
  exact h)
theorem Zx (h:wpQuiet P l.toArray (fun w'=>∃ n:WIn (Below W.heap.size W),w'=n.val) (fun a'=>∀ n:WIn (Below W.heap.size W),Q .normal a' n.val) l a):(Code.region id l.toArray false).wp P Q a W :=
 wp_region_lit (Ks (C:=fun w'=>∃ n:WIn (Below W.heap.size W),w'=n.val) l a W ⟨⟨W,Below.refl _ _⟩,rfl⟩ (by
  have:(fun a'=>∀ n:WIn (Below W.heap.size W),Q .normal a' n.val)=(fun a'=>∀ w',(∃ n:WIn (Below W.heap.size W),w'=n.val)→Q .normal a' w'):=by
   funext a';exact propext ⟨fun h w' ⟨n,hn⟩=>hn ▸ h n,fun h n=>h n.val ⟨n,rfl⟩⟩
  rw [this] at h
  exact h))
end
end Go.Proofs.YthefecaefbeidaaGreat
