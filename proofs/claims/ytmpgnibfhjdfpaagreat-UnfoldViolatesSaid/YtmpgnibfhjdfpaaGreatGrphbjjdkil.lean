import Derived.Test.YtmpgnibfhjdfpaaGreatGrpcjknjmpm
import Derived.Test.YtmpgnibfhjdfpaaGreatGrplfdmpooj
import Derived.Test.YtmpgnibfhjdfpaaGreatGrppoikgaho
import Derived.Test.YtmpgnibfhjdfpaaGreatGrplhompblc
set_option linter.all false
namespace Go.Proofs.YtmpgnibfhjdfpaaGreat
open Go.RowKit Go.Deep
structure Sz where
 n:Int
 t:Int
 f:Int
 deriving DecidableEq,Inhabited
def szC (s:Sz):List Value:=[.int .i64 s.n,.int .i64 s.t,.int .i64 s.f]
def szI (s:Sz):Prop:=I64 s.n/\I64 s.t/\I64 s.f
def SzEl (_:Nat) (_:World) (cs:List Value) (s:Sz):Prop:=cs=szC s/\szI s
theorem Zd0:∀ (l:List Sz) (i:Nat) (hi:i<l.length) (j:Nat),j<3->(l.flatMap szC)[i*3+j]? = (szC l[i])[j]?
 | [],i,hi,_,_=>absurd hi (by simp)
 | x::xs,0,_,j,hj=>by
   rw [List.flatMap_cons,List.getElem?_append_left (by simp [szC];omega)]
   simp
 | x::xs,i+1,hi,j,hj=>by
   rw [List.flatMap_cons,List.getElem?_append_right (by simp [szC];omega),show (i+1)*3+j-(szC x).length=i*3+j by simp [szC];omega]
   exact Zd0 xs i (by simpa using hi) j hj
def OwnSz (lo:Nat) (w:World) (v:Value) (l:List Sz):Prop:=w.ownsRow lo 32 3 v l.length (l.flatMap szC)/\∀ g∈l,szI g
theorem OwnSz.nil (lo:Nat) (w:World):OwnSz lo w (.slice none 0 0) []:=⟨World.ownsRow_nil _ _ _ _,by simp⟩
variable {lo:Nat}{v:Value}
theorem OwnSz.still {w w':World} {l:List Sz} (h:OwnSz lo w v l) (hb:Below w.heap.size w w'):OwnSz lo w' v l:=⟨Zd7 h.1 hb,h.2⟩
variable {w:World}
theorem OwnSz.sl {l:List Sz} (h:OwnSz lo w v l):IsSl 3 SzEl lo w v l:=by
 obtain ⟨⟨hl,h2⟩,hI⟩:=h
 rcases h2 with ⟨rfl,h0⟩ | ⟨g,cap,cur,rfl,hb,hg,hn,hm,hc,ht⟩
 ·exact ⟨none,0,by rw [h0],by omega,by simp [maxLen],λ_=>rfl,.inl (List.eq_nil_of_length_eq_zero h0)⟩
 refine ⟨_,_,rfl,hn,hm,by simp,.inr ⟨g,0,rfl,hb,(Array.getElem?_eq_some_iff.1 hg).1,λi hi=>⟨szC l[i],rfl,λj hj => ?_,rfl,hI _ (List.getElem_mem hi)⟩⟩⟩
 have hcell:w.cell? ⟨g,0+i*3+j,none⟩=cur[i*3+j]? := by
  simp only [World.cell?,hg];simp
 rw [hcell,<- Array.getElem?_toList,show cur.toList[i*3+j]? = (cur.toList.take (l.length*3))[i*3+j]? by rw [List.getElem?_take_of_lt (by omega)],ht]
 exact Zd0 l i hi j hj
def cSz (n t f:Int):List AV:=[iv n,iv t,iv f]
theorem cells3 {vs:List Value} (h:vs.length=3):vs=[vs.getD 0 undef,vs.getD 1 undef,vs.getD 2 undef]:=by
 match vs,h with
 | [_,_,_],_=>rfl
variable {n t f:Int}
theorem sz_of {F ok:Nat->Prop} (h:Pu F w ok (.agg (cSz n t f)) v):v = .agg #[.int .i64 n,.int .i64 t,.int .i64 f]:=by
 obtain ⟨vs,rfl,hl,hv⟩:=Yt h
 rw [cells3 hl,(hv 0 (by simp [cSz])).v_inv,(hv 1 (by simp [cSz])).v_inv,(hv 2 (by simp [cSz])).v_inv]
variable {q:Fm}
theorem famw (h:IsFam 0 w v q):Pu (λ_=>True) w (λb=>b<w.heap.size) (.agg (cFm q)) v:=fam_pu (λ_ _ h=>h) h
section
variable {J:World->Prop}
theorem value_c (l:Ln) (a b d:Int):Ctr Tryz.prog J 112 [.agg (cLn l),.agg (cSz a b d)] (iv (linV l.c l.n l.t l.f a b d)):=ctr2 λw v v' _ h h'=>by
 obtain ⟨vs,rfl,hl,hv⟩:=Yt h
 have e:vs=[.int .i64 l.c,.int .i64 l.n,.int .i64 l.t,.int .i64 l.f]:=by
  rw [cells4 hl,(hv 0 (by simp [cLn])).v_inv,(hv 1 (by simp [cLn])).v_inv,(hv 2 (by simp [cLn])).v_inv,(hv 3 (by simp [cLn])).v_inv]
 subst e
 rw [sz_of h']
 exact (Y7 l.c l.n l.t l.f a b d w).mono λ_ _=>ret_sc
def radA (n t f:Int):Bool:=(!inB 1 1048576 n || !inB 0 n t) || !inB 0 n f
def nofB (q:Fm) (t f:Int):Bool:=decide (q.fzz=0)&&(!decide (t=0) || !decide (f=0))
def resvK (q:Fm) (n t f:Int) (k:Nat):Bool:=(q.res.take k).all λl=>decide (0<=linV l.c l.n l.t l.f n t f)
variable {k:Nat}
theorem ZcB (hk:k<q.res.length) (h:resvK q n t f k=true) (e:¬ linV q.res[k].c q.res[k].n q.res[k].t q.res[k].f n t f<0):resvK q n t f (k+1)=true :=
 Zdx hk h (by rw [decide_eq_true_eq];omega)
theorem radA_f (h:radA n t f=false):inB 1 1048576 n=true/\inB 0 n t=true/\inB 0 n f=true:=by
 unfold radA at h;simpa [and_assoc] using h
theorem adm_a (h:radA n t f=true):admB q n t f=false:=by
 unfold radA at h
 unfold admB
 simp only [Bool.or_eq_true,Bool.not_eq_true'] at h
 rcases h with (h | h) | h<;>simp [h]
theorem adm_r (hk:k<q.res.length) (e:linV q.res[k].c q.res[k].n q.res[k].t q.res[k].f n t f<0):admB q n t f=false:=by
 have:resvB q n t f=false:=all_no hk (by rw [decide_eq_false_iff_not];omega)
 unfold admB;rw [this,Bool.and_false]
theorem Zdk :nofB q t f=(decide (q.fzz=0) && !(decide (t=0)&&decide (f=0))):=by unfold nofB;simp
theorem adm_f (h:nofB q t f=true):admB q n t f=false:=by
 unfold admB;rw [<- Zdk,h];simp
theorem adm_0 (h:radA n t f=false) (hr:resvK q n t f q.res.length=true) (hn:nofB q t f=false) (ht:¬ q.top=4):admB q n t f=true:=by
 have h2:resvB q n t f=true:=by unfold resvK at hr;rwa [List.take_length] at hr
 obtain ⟨a,b,c⟩:=radA_f h
 unfold admB;rw [<- Zdk,hn,a,b,c,h2];simp [ht]
theorem adm_1 (h:radA n t f=false) (hr:resvK q n t f q.res.length=true) (hn:nofB q t f=false) (ht:q.top=4):admB q n t f=decide (n.tmod 2=1):=by
 have h2:resvB q n t f=true:=by unfold resvK at hr;rwa [List.take_length] at hr
 obtain ⟨a,b,c⟩:=radA_f h
 unfold admB;rw [<- Zdk,hn,a,b,c,h2]
 have h1:1<=n:=by unfold inB at a;simp only [Bool.and_eq_true,decide_eq_true_eq] at a;omega
 have e:n.tmod 2=n % 2:=Int.tmod_eq_emod_of_nonneg (by omega)
 rw [Bool.eq_iff_iff,e]
 simp only [Bool.and_eq_true,Bool.not_eq_true',Bool.and_eq_false_iff,decide_eq_true_eq,decide_eq_false_iff_not,ht]
 simp
 omega
end
end Go.Proofs.YtmpgnibfhjdfpaaGreat
