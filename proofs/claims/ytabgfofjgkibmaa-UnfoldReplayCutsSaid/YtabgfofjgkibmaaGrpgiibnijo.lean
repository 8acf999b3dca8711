import Derived.Test.YtabgfofjgkibmaaGrpnnocpcek
set_option linter.all false
namespace Go.Proofs.Ytabgfofjgkibmaa
open Go.RowKit Go.Deep
def IsStrs (lo:Nat) (w:World) (v:Value) (xs:List ByteArray):Prop :=
  ∃ (a:Option Addr) (cap:Nat),v = .slice a xs.length cap∧xs.length≤cap∧cap≤maxLen∧((∀ x∈xs,x.size≤maxLen)∧(a=none→cap=0)) ∧
    (xs=[]∨∃ b off,a=some ⟨b,off,none⟩∧lo≤b∧b<w.heap.size∧∀ i,i<xs.length→w.cell? ⟨b,off+i,none⟩=some (.string (xs.getD i ⟨#[]⟩)))
theorem IsStrs.below {lo:Nat} {w w':World} {v:Value} {xs:List ByteArray} (h:IsStrs lo w v xs) (hb:Below w.heap.size w w'):IsStrs lo w' v xs:=by
  obtain ⟨a,cap,hv,hl,hm,hi,hc⟩:=h
  refine ⟨a,cap,hv,hl,hm,hi,?_⟩
  rcases hc with hc | ⟨b,off,ha,hlo,hbk,hcell⟩
  · exact .inl hc
  exact .inr ⟨b,off,ha,hlo,Nat.lt_of_lt_of_le hbk hb.size,fun i hi=>(hb.cell (p:=⟨b,off+i,none⟩) hbk).trans (hcell i hi)⟩
theorem IsStrs.mono {lo lo':Nat} {w:World} {v:Value} {xs:List ByteArray} (h:IsStrs lo w v xs) (hl:lo'≤lo):IsStrs lo' w v xs:=by
  obtain ⟨a,cap,hv,h1,hm,hi,hc⟩:=h
  refine ⟨a,cap,hv,h1,hm,hi,?_⟩
  rcases hc with hc | ⟨b,off,ha,hlo,r⟩
  · exact .inl hc
  exact .inr ⟨b,off,ha,Nat.le_trans hl hlo,r⟩
theorem IsStrs.shape {lo:Nat} {w:World} {v:Value} {xs:List ByteArray} (h:IsStrs lo w v xs):∃ a cap,v = .slice a xs.length cap:=by
  obtain ⟨a,cap,hv,_⟩:=h
  exact ⟨a,cap,hv⟩
end Go.Proofs.Ytabgfofjgkibmaa
