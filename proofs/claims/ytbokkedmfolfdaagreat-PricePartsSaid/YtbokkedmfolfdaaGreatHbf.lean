/-  -/
import Derived.Test.YtbokkedmfolfdaaGreatHbe
import Derived.Test.YtbokkedmfolfdaaGreatHaq
import Derived.Test.YtbokkedmfolfdaaGreatHaz
import Derived.Test.YtbokkedmfolfdaaGreatHba
import Derived.Deep.RegionHeld3
namespace Go.Proofs.YtbokkedmfolfdaaGreat
open Go.RowKit

theorem wV {kind:Int} {xs:List Int} {ys:List Nat} {E:Int} (ok:OkT kind xs ys) (h:TabR kind xs ys E):E=0:=by
 cases h with
 | ok h=>rfl
 | kind h=>have:=ok.k1;have:=ok.k4;omega
 | len h1 h4 h=>have:=ok.lo;have:=ok.hi;have:=ok.len;omega
 | node h1 h4 lo hi len K hK bad fine=>rw [ok.node K hK] at bad;cases bad
theorem dg {base kind:Int} {ds:List Int} {fs:List Nat} {E:Int} (ok:OkV base kind ds fs) (h:CurR base kind ds fs E):E=0:=by
 cases h with
 | ok h=>rfl
 | base h=>have:=ok.b0;have:=ok.b1;omega
 | kind b0 b1 h=>have:=ok.k1;have:=ok.k4;omega
 | len b0 b1 h1 h4 h=>have:=ok.lo;have:=ok.hi;have:=ok.len;omega
 | node b0 b1 h1 h4 lo hi len K hK bad fine=>rw [ok.node K hK] at bad;cases bad
theorem dN {kind:Int} {xs:List Int} {ys:List Nat} {x:Int} {j k:Nat} (ok:OkT kind xs ys) (h:FindR xs x j) (h':FindR xs x k):j=k:=by
 rcases Nat.lt_trichotomy j k with c | c | c
 ·exfalso
  have a:=h.gt (by have:=h'.lt;omega)
  have b:=h'.le
  rcases Nat.lt_or_eq_of_le (show j+1≤k from c) with d | d
  ·have:=ok.rise d h'.lt;omega
  ·rw [← d] at b;omega
 ·exact c
 ·exfalso
  have a:=h'.gt (by have:=h.lt;omega)
  have b:=h.le
  rcases Nat.lt_or_eq_of_le (show k+1≤j from c) with d | d
  ·have:=ok.rise d h.lt;omega
  ·rw [← d] at b;omega
theorem wW {kind:Int} {xs:List Int} {ys:List Nat} {x:Int} {V V':Nat} {E E':Int} (ok:OkT kind xs ys) (h:AtO kind xs ys x V E) (h':AtO kind xs ys x V' E'):V=V'∧E=E':=by
 have F:∀ {k E},FindO kind xs ys x k E→E≠0→E=51∧(x<xs.getD 0 0∨xs.getD (xs.length - 1) 0<x):=fun h hE=>by
  cases h with
  | bad E h hE=>exact absurd (wV ok h) hE
  | out h hx=>exact⟨rfl,hx⟩
  | at_=>exact absurd rfl hE
 have G:∀ {k},FindO kind xs ys x k 0→¬ (x<xs.getD 0 0∨xs.getD (xs.length - 1) 0<x):=fun {k} h=>by
  generalize hz:(0:Int)=z at h
  cases h with
  | bad E h hE=>exact absurd hz.symm hE
  | out h hx=>cases hz
  | at_ h a b=>omega
 cases h with
 | err k E h hE=>
  obtain⟨rfl,hx⟩:=F h hE
  cases h' with
  | err k' E' h' hE'=>obtain⟨rfl,_⟩:=F h' hE';exact⟨rfl,rfl⟩
  | node k' _ h'=>exact absurd hx (G h')
  | piece k' D i _ h'=>exact absurd hx (G h')
 | node k _ h hk he=>
  cases h' with
  | err k' E' h' hE'=>exact absurd (F h' hE').2 (G h)
  | node k' _ h' hk' he'=>obtain rfl:=dN ok hk hk';exact⟨rfl,rfl⟩
  | piece k' D i _ h' hk' he' hI=>obtain rfl:=dN ok hk hk';exact absurd he he'
 | piece k D i _ h hk he hI=>
  cases h' with
  | err k' E' h' hE'=>exact absurd (F h' hE').2 (G h)
  | node k' _ h' hk' he'=>obtain rfl:=dN ok hk hk';exact absurd he' he
  | piece k' D' i' _ h' hk' he' hI'=>
   obtain rfl:=dN ok hk hk'
   have hD:D=D':=by have:=hI.hD;have:=hI'.hD;omega
   have hi:i=i':=by have:=hI.hi;have:=hI'.hi;omega
   subst hD hi
   exact⟨rfl,rfl⟩
theorem uC {base kind:Int} {ds:List Int} {fs:List Nat} {x:Int} {V V':Nat} {E E':Int} (ok:OkV base kind ds fs) (h:FacO base kind ds fs x V E) (h':FacO base kind ds fs x V' E'):V=V'∧E=E':=by
 cases h with
 | bad E h hE=>exact absurd (dg ok h) hE
 | ok _ V E hA=>
  cases h' with
  | bad E' h' hE'=>exact absurd (dg ok h') hE'
  | ok _ V' E' hA'=>exact wW ok.table hA hA'
noncomputable def facV (base kind:Int) (ds:List Int) (fs:List Nat) (x:Int):Nat:=(lm base kind ds fs x).choose
noncomputable def uD (base kind:Int) (ds:List Int) (fs:List Nat) (x:Int):Int:=(lm base kind ds fs x).choose_spec.choose
theorem gN (base kind:Int) (ds:List Int) (fs:List Nat) (x:Int):FacO base kind ds fs x (facV base kind ds fs x) (uD base kind ds fs x):=(lm base kind ds fs x).choose_spec.choose_spec
theorem lp {base kind:Int} {ds:List Int} {fs:List Nat} {x:Int} {V:Nat} {E:Int} (ok:OkV base kind ds fs) (h:FacO base kind ds fs x V E):facV base kind ds fs x=V∧uD base kind ds fs x=E:=uC ok (gN _ _ _ _ _) h
theorem uE {base kind:Int} {ds:List Int} {fs:List Nat} {x:Int} (ok:OkV base kind ds fs) (hf:∀ i<fs.length,fs.getD i 0<18446744073709551616) (hE:uD base kind ds fs x=0):facV base kind ds fs x<18446744073709551616∧0<aa (facV base kind ds fs x:Nat)∧af (facV base kind ds fs x:Nat)=false:=by
 have h:=gN base kind ds fs x
 rw [hE] at h
 generalize facV base kind ds fs x=V at h
 generalize hz:(0:Int)=z at h
 cases h with
 | bad E h hE=>exact absurd hz.symm hE
 | ok _ V E hA=>subst hz;obtain⟨a,b,c,_⟩:=pN ok hf hA;exact⟨a,c,b⟩
theorem oB (u:Int):aa u≤szI u:=by
 have:0≤szI u:=by unfold szI;omega
 unfold aa;split
 ·omega
 ·split<;>omega
theorem mS {base kind:Int} {ds:List Int} {fs:List Nat} (ok:OkV base kind ds fs):∀ i≤ds.length,aa (prvF fs i:Nat)<9218868437227405312
 | 0,_=>by
  show aa (4607182418800017408:Nat)<9218868437227405312
  decide
 | i+1,hi=>by
  have h:=(cR (ok.node i (by omega))).2.2.1
  show aa (fs.getD i 0:Nat)<9218868437227405312
  unfold aD at h
  rw [decide_eq_true_eq] at h
  have:=oB (fs.getD i 0:Nat)
  omega
theorem mT {u:Int} (hn:af u=false) (h0:0<aa u) (h:aa u<9218868437227405312):aD u=true:=by
 unfold aD
 rw [decide_eq_true_eq]
 have hs:0≤szI u:=by unfold szI;omega
 unfold aa at h0 h
 rw [hn] at h0 h
 simp only [Bool.false_eq_true,if_false] at h0 h
 split at h0
 ·omega
 ·rename_i hc
  rw [if_neg hc] at h;exact h
theorem wX {base kind a:Int} {ds:List Int} {fs:List Nat} {W:Nat} (ok:OkV base kind ds fs) (hf:∀ i<fs.length,fs.getD i 0<18446744073709551616) (h:AtO kind (ctX base ds) (ctY fs) a W 0):aD (W:Nat)=true:=by
 obtain⟨p1,p2,p3,_⟩:=pN ok hf h
 obtain⟨k,_,_,hk,h1,h2,h3,h4⟩:=mR h (xu hf)
 rw [gM] at hk h3 h4
 rw [em,em] at h3
 rw [em] at h4
 refine mT p2 p3 ?_
 have q1:=mS ok k (by omega)
 by_cases hl:k+1<ds.length+1
 ·have:=(h3 hl).2
  have q2:=mS ok (k+1) (by omega)
  omega
 ·have:=h4 hl;omega
theorem iX {base kind:Int} {ds:List Int} {fs:List Nat} {x:Int} (ok:OkV base kind ds fs) (hf:∀ i<fs.length,fs.getD i 0<18446744073709551616) (hE:uD base kind ds fs x=0):aD (facV base kind ds fs x:Nat)=true:=by
 have h:=gN base kind ds fs x
 rw [hE] at h
 generalize facV base kind ds fs x=V at h
 generalize hz:(0:Int)=z at h
 cases h with
 | bad E h hE=>exact absurd hz.symm hE
 | ok _ V E hA=>subst hz;exact wX ok hf hA
end Go.Proofs.YtbokkedmfolfdaaGreat
namespace Go.Proofs.YtbokkedmfolfdaaGreat
open Go.RowKit

structure Cv where
 base:Int
 kind:Int
 ds:List Int
 fs:List Nat
noncomputable def Cv.V (c:Cv) (x:Int):Nat:=facV c.base c.kind c.ds c.fs x
noncomputable def Cv.E (c:Cv) (x:Int):Int:=uD c.base c.kind c.ds c.fs x
def Cv.Ok (c:Cv):Prop:=OkV c.base c.kind c.ds c.fs
def Cv.Chk (c:Cv) (E:Int):Prop:=CurR c.base c.kind c.ds c.fs E
def Cv.Fit (c:Cv):Prop:=∀ i<c.fs.length,c.fs.getD i 0<18446744073709551616
theorem uK {base kind:Int} {ds:List Int} {fs:List Nat} {E E':Int} (h:CurR base kind ds fs E) (h':CurR base kind ds fs E'):E=E':=by
 cases h with
 | ok h=>exact (dg h h').symm
 | base h=>cases h' with
  | base _=>rfl
  | ok h'=>have:=h'.b0;have:=h'.b1;omega
  | kind b0 b1 _=>omega
  | len b0 b1 _ _ _=>omega
  | node b0 b1 _ _ _ _ _ _ _ _ _=>omega
 | kind b0 b1 h=>cases h' with
  | base _=>omega
  | ok h'=>have:=h'.k1;have:=h'.k4;omega
  | kind _ _ _=>rfl
  | len _ _ h1 h4 _=>omega
  | node _ _ h1 h4 _ _ _ _ _ _ _=>omega
 | len b0 b1 h1 h4 h=>cases h' with
  | base _=>omega
  | ok h'=>have:=h'.lo;have:=h'.hi;have:=h'.len;omega
  | kind _ _ _=>omega
  | len _ _ _ _ _=>rfl
  | node _ _ _ _ _ _ _ _ _ _ _=>rfl
 | node b0 b1 h1 h4 lo hi len K hK bad fine=>cases h' with
  | base _=>omega
  | ok h'=>rw [h'.node K hK] at bad;cases bad
  | kind _ _ _=>omega
  | len _ _ _ _ _=>rfl
  | node _ _ _ _ _ _ _ _ _ _ _=>rfl

def tkB (cur base:Int) (f:Flw):Bool:=decide (f.cur=cur)&&decide (base≤f.day)
inductive VisR (l:List Flw) (cur:Int) (c:Cv):Int→Prop
 | flow (E K:Int) (h:ChkF l E K) (hE:E≠0):VisR l cur c E
 | cur (h:ChkF l 0 0) (hc:¬ (1≤cur∧cur≤8)):VisR l cur c 140
 | curve (h:ChkF l 0 0) (hc:1≤cur∧cur≤8) (E:Int) (hC:c.Chk E) (hE:E≠0):VisR l cur c E
 | fac (h:ChkF l 0 0) (hc:1≤cur∧cur≤8) (ok:c.Ok) (K:Nat) (hK:K<l.length) (tk:tkB cur c.base (l.getD K ai)=true) (E:Int) (he:c.E (l.getD K ai).day=E) (hE:E≠0) (fine:∀ i<K,tkB cur c.base (l.getD i ai)=true→c.E (l.getD i ai).day=0):VisR l cur c E
 | ok (h:ChkF l 0 0) (hc:1≤cur∧cur≤8) (ok:c.Ok) (fine:∀ i<l.length,tkB cur c.base (l.getD i ai)=true→c.E (l.getD i ai).day=0):VisR l cur c 0
theorem km {l:List Flw} {K:Int} (h:ChkF l 0 K):K=0:=by
 generalize hz:(0:Int)=z at h
 cases h with
 | many h=>cases hz
 | fine=>rfl
 | bad hl k hk e he h0 h=>exact absurd hz.symm h0
theorem vis_from (l:List Flw) (cur:Int) (c:Cv):∀ n,(∀ i<n,tkB cur c.base (l.getD i ai)=true→c.E (l.getD i ai).day=0)∨∃ k<n,tkB cur c.base (l.getD k ai)=true∧c.E (l.getD k ai).day≠0∧∀ i<k,tkB cur c.base (l.getD i ai)=true→c.E (l.getD i ai).day=0
 | 0=>Or.inl (fun i hi=>by omega)
 | n+1=>by
  rcases vis_from l cur c n with h | ⟨k,hk,ht,h0,h⟩
  ·by_cases d:tkB cur c.base (l.getD n ai)=true∧c.E (l.getD n ai).day≠0
   ·exact Or.inr ⟨n,by omega,d.1,d.2,h⟩
   ·refine Or.inl (fun i hi ht=>?_)
    by_cases d2:i<n
    ·exact h i d2 ht
    ·obtain rfl:i=n:=by omega
     exact Classical.byContradiction fun hn=>d ⟨ht,hn⟩
  ·exact Or.inr ⟨k,by omega,ht,h0,h⟩
theorem lq (l:List Flw) (cur:Int) (c:Cv):∃ E,VisR l cur c E:=by
 obtain⟨e,k,h⟩:=pQ l
 by_cases he:e=0
 ·subst he
  obtain rfl:=km h
  by_cases hc:1≤cur∧cur≤8
  ·obtain⟨E,hE⟩:=ll c.base c.kind c.ds c.fs
   by_cases hz:E=0
   ·subst hz
    rcases vis_from l cur c l.length with hf | ⟨K,hK,ht,h0,hf⟩
    ·exact⟨0,.ok h hc (eU hE) hf⟩
    ·exact⟨_,.fac h hc (eU hE) K hK ht _ rfl h0 hf⟩
   ·exact⟨E,.curve h hc E hE hz⟩
  ·exact⟨140,.cur h hc⟩
 ·exact⟨e,.flow e k h he⟩
theorem cS {l:List Flw} {cur:Int} {c:Cv} {E E':Int} (h:VisR l cur c E) (h':VisR l cur c E'):E=E':=by
 cases h with
 | flow E K h hE=>cases h' with
  | flow E' K' h' hE'=>exact (au h h').1
  | cur h' _=>exact absurd (au h h').1 hE
  | curve h' _ _ _ _=>exact absurd (au h h').1 hE
  | fac h' _ _ _ _ _ _ _ _ _=>exact absurd (au h h').1 hE
  | ok h' _ _ _=>exact absurd (au h h').1 hE
 | cur h hc=>cases h' with
  | flow E' K' h' hE'=>exact absurd (au h' h).1 hE'
  | cur _ _=>rfl
  | curve _ hc' _ _ _=>exact absurd hc' hc
  | fac _ hc' _ _ _ _ _ _ _ _=>exact absurd hc' hc
  | ok _ hc' _ _=>exact absurd hc' hc
 | curve h hc E hC hE=>cases h' with
  | flow E' K' h' hE'=>exact absurd (au h' h).1 hE'
  | cur _ hc'=>exact absurd hc hc'
  | curve _ _ E' hC' _=>exact uK hC hC'
  | fac _ _ ok _ _ _ _ _ _ _=>exact absurd (dg ok hC) hE
  | ok _ _ ok _=>exact absurd (dg ok hC) hE
 | fac h hc ok K hK tk E he hE fine=>cases h' with
  | flow E' K' h' hE'=>exact absurd (au h' h).1 hE'
  | cur _ hc'=>exact absurd hc hc'
  | curve _ _ E' hC' hE'=>exact absurd (dg ok hC') hE'
  | fac _ _ _ K' hK' tk' E' he' hE' fine'=>
   rcases Nat.lt_trichotomy K K' with d | d | d
   ·exact absurd (he.symm.trans (fine' K d tk)) hE
   ·subst d;exact he.symm.trans he'
   ·exact absurd (he'.symm.trans (fine K' d tk')) hE'
  | ok _ _ _ fine'=>exact absurd (he.symm.trans (fine' K hK tk)) hE
 | ok h hc ok fine=>cases h' with
  | flow E' K' h' hE'=>exact absurd (au h' h).1 hE'
  | cur _ hc'=>exact absurd hc hc'
  | curve _ _ E' hC' hE'=>exact absurd (dg ok hC') hE'
  | fac _ _ _ K' hK' tk' E' he' hE' fine'=>exact absurd (he'.symm.trans (fine K' hK' tk')) hE'
  | ok _ _ _ _=>rfl
structure FineP (l:List Flw) (cur:Int) (c:Cv):Prop where
 len:l.length≤4096
 bad:∀ f ∈ l,cz f=0
 cu:1≤cur∧cur≤8
 ok:c.Ok
 fac:∀ f ∈ l,tkB cur c.base f=true→c.E f.day=0
theorem dO {l:List Flw} {i:Nat} (h:i<l.length):l.getD i ai ∈ l:=by
 have:l.getD i ai=l[i]:=by simp [List.getD,List.getElem?_eq_getElem h]
 rw [this];exact List.getElem_mem h
theorem fI {l:List Flw} {f:Flw} (h:f ∈ l):∃ i,i<l.length∧l.getD i ai=f:=by
 obtain⟨i,hi,e⟩:=List.getElem_of_mem h
 exact⟨i,hi,by simp [List.getD,List.getElem?_eq_getElem hi,e]⟩
theorem rM {l:List Flw} {cur:Int} {c:Cv} (h:VisR l cur c 0):FineP l cur c:=by
 generalize hz:(0:Int)=z at h
 cases h with
 | flow E K h hE=>exact absurd hz.symm hE
 | cur=>cases hz
 | curve h hc E hC hE=>exact absurd hz.symm hE
 | fac h hc ok K hK tk E he hE fine=>exact absurd hz.symm hE
 | ok h hc ok fine=>
  have hF:l.length≤4096∧∀ i<l.length,cz (l.getD i ai)=0:=by
   generalize hz:(0:Int)=z at h
   cases h with
   | fine hl h=>exact⟨hl,h⟩
   | bad hl k hk e he h0 h=>exact absurd hz.symm h0
  refine⟨hF.1,fun f hf=>?_,hc,ok,fun f hf ht=>?_⟩
  ·obtain⟨i,hi,rfl⟩:=fI hf
   exact hF.2 i hi
  ·obtain⟨i,hi,rfl⟩:=fI hf
   exact fine i hi ht
theorem fJ {l:List Flw} {cur:Int} {c:Cv} (h:FineP l cur c):VisR l cur c 0:=
 .ok (.fine h.len (fun _ hi=>h.bad _ (dO hi))) h.cu h.ok (fun _ hi ht=>h.fac _ (dO hi) ht)
theorem fK {l:List Flw} {cur E:Int} {c:Cv} (h:VisR l cur c E):E=0↔FineP l cur c:=
 ⟨fun e=>rM (e▸h),fun f=>cS h (fJ f)⟩
noncomputable def prI (c:Cv) (f:Flw):Int:=(A.dw (f.am:Int) (c.V f.day:Int)).N
noncomputable def ctI (cur:Int) (c:Cv) (f:Flw):Int:=if tkB cur c.base f=true then prI c f else 0
noncomputable def wsI (cur:Int) (c:Cv):List Flw→Int
 | []=>0
 | f::l=>ctI cur c f+wsI cur c l
theorem eo (cur:Int) (c:Cv):∀ a b:List Flw,wsI cur c (a++b)=wsI cur c a+wsI cur c b
 | [],b=>by simp [wsI]
 | f::a,b=>by simp only [List.cons_append,wsI];rw [eo cur c a b,Int.add_assoc]
theorem uL {cur:Int} {c:Cv} {a b:List Flw} (h:a.Perm b):wsI cur c a=wsI cur c b:=by
 induction h with
 | nil=>rfl
 | cons x _ ih=>simp only [wsI];rw [ih]
 | swap x y l=>simp only [wsI];omega
 | trans _ _ ih1 ih2=>exact ih1.trans ih2
theorem oI {l:List Flw} {k:Nat} (hk:k<l.length):l.take (k+1)=l.take k++[l.getD k ai]:=by
 have:l.getD k ai=l[k]:=by simp [List.getD,List.getElem?_eq_getElem hk]
 rw [this,List.take_succ_eq_append_getElem hk]
theorem mW {cur:Int} {c:Cv} {l:List Flw} {k:Nat} (hk:k<l.length):wsI cur c (l.take (k+1))=wsI cur c (l.take k)+ctI cur c (l.getD k ai):=by
 rw [oI hk,eo];simp [wsI]
theorem eY {l m:List Flw} {cur:Int} {c:Cv} (hn:(l++m).length≤4096):FineP (l++m) cur c↔FineP l cur c∧FineP m cur c:=by
 have e:(l++m).length=l.length+m.length:=List.length_append
 constructor
 ·intro h
  exact⟨⟨by omega,fun f hf=>h.bad f (List.mem_append_left _ hf),h.cu,h.ok,fun f hf=>h.fac f (List.mem_append_left _ hf)⟩,⟨by omega,fun f hf=>h.bad f (List.mem_append_right _ hf),h.cu,h.ok,fun f hf=>h.fac f (List.mem_append_right _ hf)⟩⟩
 ·rintro⟨h,h'⟩
  exact⟨hn,fun f hf=>(List.mem_append.1 hf).elim (h.bad f) (h'.bad f),h.cu,h.ok,fun f hf=>(List.mem_append.1 hf).elim (h.fac f) (h'.fac f)⟩
theorem iZ {l m:List Flw} {cur:Int} {c:Cv} (hp:l.Perm m) (h:FineP l cur c):FineP m cur c:=
 ⟨by rw [← hp.length_eq];exact h.len,fun f hf=>h.bad f (hp.mem_iff.2 hf),h.cu,h.ok,fun f hf=>h.fac f (hp.mem_iff.2 hf)⟩
def fL (x:Nat):Nat:=if aD (x:Int)=true then x else 0
def fM (x:Nat):Int:=if aD (x:Int)=true then 0 else 91
theorem oJ {f:Flw} (h:cz f=0):aD (f.am:Int)=true:=by
 unfold cz at h
 split at h
 ·cases h
 ·split at h
  ·cases h
  ·rename_i _ h2
   cases hb:aD (f.am:Int)
   ·exact absurd hb h2
   ·rfl
theorem Cv.num {c:Cv} {x:Int} (ok:c.Ok) (hf:c.Fit) (h:c.E x=0):c.V x<18446744073709551616∧0<aa (c.V x:Nat)∧af (c.V x:Nat)=false:=uE ok hf h
end Go.Proofs.YtbokkedmfolfdaaGreat
namespace Go.Proofs.YtbokkedmfolfdaaGreat
open Go.RowKit

end Go.Proofs.YtbokkedmfolfdaaGreat
namespace Go.Proofs.YtbokkedmfolfdaaGreat
open Go.RowKit

theorem ym {w:World} {B B' b L:Nat} {v:Value} {a:A.St} (h:A.AccAt w B b v L a) (hk:∀ k,A.Ft b v k→B'≤k):A.AccAt w B' b v L a:=by
 obtain⟨xs,ho,hl,hs⟩:=h.own
 refine⟨h.blk,hk b (Or.inl rfl),⟨xs,⟨⟨ho.own.1,?_⟩,ho.fit⟩,hl,hs⟩,h.ne,h.ok⟩
 rcases ho.own.2 with h6 | ⟨g,cap,cur,h6,h7,rest⟩
 ·exact .inl h6
 ·exact .inr ⟨g,cap,cur,h6,hk g (Or.inr (by rw [h6];rfl)),rest⟩
structure WAt (w:World) (g:Nat) (N:Int) (L:Nat):Prop where
 ex:∃ b v,w.heap[g]? =some (.cells #[.pointer (some ⟨b,0,none⟩)] 44)∧A.AccAt w 0 b v L ⟨0,N⟩
theorem WAt.below {w w':World} {g:Nat} {N:Int} {L:Nat} (h:WAt w g N L) (hb:Below w.heap.size w w'):WAt w' g N L:=by
 obtain⟨b,v,h1,h2⟩:=h.ex
 exact⟨b,v,(hb.block g (Array.getElem?_eq_some_iff.1 h1).1).trans h1,h2.below hb⟩
theorem WAt.drewN {w:World} {g:Nat} {N:Int} {L:Nat} (h:WAt w g N L) (n:Nat):WAt (w.drewN n) g N L:=by
 obtain⟨b,v,h1,h2⟩:=h.ex
 exact⟨b,v,h1,h2.drewN n⟩
theorem lv {B:Nat} {w w':World} (h:Below B w w') (n:Nat):Below B w (w'.drewN n):=⟨h.os,h.tape,h.output,h.size,h.block⟩
theorem WAt.lt {w:World} {g:Nat} {N:Int} {L:Nat} (h:WAt w g N L):g<w.heap.size:=by
 obtain⟨b,v,h1,_⟩:=h.ex
 exact (Array.getElem?_eq_some_iff.1 h1).1
theorem WAt.at_ {w:World} {g:Nat} {N:Int} {L:Nat} (h:WAt w g N L):∃ b v,w.cell? ⟨g,0,none⟩=some (.pointer (some ⟨b,0,none⟩))∧A.AccAt w 0 b v L ⟨0,N⟩:=by
 obtain⟨b,v,h1,h2⟩:=h.ex
 exact⟨b,v,by simp [World.cell?,h1],h2⟩
theorem fa {w:World} {b:Nat} {v:Value} {L:Nat} {N:Int} (h:A.AccAt w 0 b v L ⟨0,N⟩):WAt (w.alloc (.cells #[.pointer (some ⟨b,0,none⟩)] 44)) w.heap.size N L:=
 ⟨b,v,heap_alloc_new _ _,h.below ((Below.refl _ _).alloc (Nat.le_refl _) _)⟩
set_option maxHeartbeats 800000 in
theorem fb (w:World):Calls Tryz.prog 16 #[] w fun e w'=>∃ g,e=.returned (.pointer (some ⟨g,0,none⟩))∧WAt w' g 0 70∧Below w.heap.size w w':=by
 have HN:=hideS (A.gG w 0 (Nat.zero_le _))
 go_enter Tryz.func16,Tryz.ntmps16
 go_wp2_with fail
 refine HN.out.mono ?_
 rintro e w2 ⟨rfl,ha,hb⟩
 have HW:=hideS (fa (ha.mono (L':=70) (by omega)))
 have HB:=hideS (hb.alloc hb.size (.cells #[.pointer (some ⟨w.heap.size,0,none⟩)] 44))
 clear ha hb HN
 go_wp2_with fail
 go_ret
 exact⟨_,rfl,HW.out,HB.out⟩
set_option maxHeartbeats 1600000 in
theorem fR (g h:Nat) (N M:Int) (L L':Nat) (w:World) (hg:WAt w g N L) (hh:WAt w h M L') (hL:L≤40000) (hL':L'≤40000) :
  Calls Tryz.prog 9 #[.pointer (some ⟨g,0,none⟩),.pointer (some ⟨h,0,none⟩)] w fun e w'=>∃ r,e=.returned (.pointer (some ⟨r,0,none⟩))∧WAt w' r (N+M) (max L L'+1)∧Below w.heap.size w w':=by
 obtain⟨b,v,c0,ha⟩:=hg.at_
 obtain⟨d,u,e0,hd⟩:=hh.at_
 have HC:=hideS (A.io 0 b v L _ w ha (Nat.zero_le _) hL)
 have HH:=hideS hh
 have HD:=hideS hd
 have hlt:=hh.lt
 clear hg hh ha hd
 go_enter Tryz.func9,Tryz.ntmps9
 go_wp2_with fail
 refine HC.out.mono ?_
 rintro e w2 ⟨c2,v2,rfl,ha2,hf2,hb2⟩
 have e2:w2.cell? ⟨h,0,none⟩=some (.pointer (some ⟨d,0,none⟩)):=(hb2.cell (p:=⟨h,0,none⟩) hlt).trans e0
 have HM:=hideS (A.qN 0 c2 d v2 u L L' _ _ w2 ha2 (HD.out.below hb2) (fun k h1 h2=>by have:=hf2 k h1;have:=(HD.out.base k h2).2;omega) (Nat.zero_le _) hL hL')
 have HF2:=hideS hf2
 have HB2:=hideS hb2
 have HA2:=hideS ha2
 clear ha2 hf2 hb2 HC c0 e0 hlt
 go_wp2_with fail
 refine HM.out.mono ?_
 rintro e w3 ⟨rfl,v3,hd3⟩
 have HW3:=hideS (fa hd3.acc)
 have HB3:Hid (Below w.heap.size w w3):=HB2.out.trans (hd3.wrote.below (fun k hk=>HF2.out k hk) HB2.out.size)
 have HB4:=hideS (HB3.out.alloc HB3.out.size (.cells #[.pointer (some ⟨c2,0,none⟩)] 44))
 clear hd3 HM e2
 go_wp2_with fail
 go_ret
 exact⟨_,rfl,HW3.out,HB4.out⟩
set_option maxHeartbeats 1600000 in
theorem rU (g:Nat) (N:Int) (L:Nat) (w:World) (hg:WAt w g N L) (hL:L≤40000) :
  Calls Tryz.prog 9 #[.pointer (some ⟨g,0,none⟩),.pointer none] w fun e w'=>∃ r,e=.returned (.pointer (some ⟨r,0,none⟩))∧WAt w' r N L∧Below w.heap.size w w':=by
 obtain⟨b,v,c0,ha⟩:=hg.at_
 have HC:=hideS (A.io 0 b v L _ w ha (Nat.zero_le _) hL)
 clear hg ha
 go_enter Tryz.func9,Tryz.ntmps9
 go_wp2_with fail
 refine HC.out.mono ?_
 rintro e w2 ⟨c2,v2,rfl,ha2,hf2,hb2⟩
 have HW3:=hideS (fa ha2)
 have HB4:=hideS (hb2.alloc hb2.size (.cells #[.pointer (some ⟨c2,0,none⟩)] 44))
 clear ha2 hf2 hb2 HC c0
 go_wp2_with fail
 go_ret
 exact⟨_,rfl,HW3.out,HB4.out⟩
set_option maxHeartbeats 1600000 in
theorem nh (g:Nat) (N:Int) (L:Nat) (w:World) (hg:WAt w g N L) (hL:L≤40000) :
  Calls Tryz.prog 14 #[.pointer (some ⟨g,0,none⟩)] w fun e w'=>∃ r,e=.returned (.pointer (some ⟨r,0,none⟩))∧WAt w' r (-N) (L+1)∧Below w.heap.size w w':=by
 obtain⟨b,v,c0,ha⟩:=hg.at_
 have HC:=hideS (A.io 0 b v L _ w ha (Nat.zero_le _) hL)
 clear hg ha
 go_enter Tryz.func14,Tryz.ntmps14
 go_wp2_with fail
 refine HC.out.mono ?_
 rintro e w2 ⟨c2,v2,rfl,ha2,hf2,hb2⟩
 have HM:=hideS (A.tp 0 c2 v2 L _ w2 ha2 (Nat.zero_le _) hL)
 have HF2:=hideS hf2
 have HB2:=hideS hb2
 clear ha2 hf2 hb2 HC c0
 go_wp2_with fail
 refine HM.out.mono ?_
 rintro e w3 ⟨rfl,v3,hd3⟩
 have HW3:=hideS (fa hd3.acc)
 have HB3:Hid (Below w.heap.size w w3):=HB2.out.trans (hd3.wrote.below (fun k hk=>HF2.out k hk) HB2.out.size)
 have HB4:=hideS (HB3.out.alloc HB3.out.size (.cells #[.pointer (some ⟨c2,0,none⟩)] 44))
 clear hd3 HM
 go_wp2_with fail
 go_ret
 exact⟨_,rfl,HW3.out,HB4.out⟩
set_option maxHeartbeats 1600000 in
theorem rV (g h:Nat) (N M:Int) (L L':Nat) (w:World) (hg:WAt w g N L) (hh:WAt w h M L') (hL:L≤40000) (hL':L'≤40000) :
  Calls Tryz.prog 10 #[.pointer (some ⟨g,0,none⟩),.pointer (some ⟨h,0,none⟩)] w fun e w'=>e=.returned (.bool (decide (N=M)))∧∃ q,w'=w.drewN q:=by
 obtain⟨b,v,c0,ha⟩:=hg.at_
 obtain⟨d,u,e0,hd⟩:=hh.at_
 have HS:=hideS fun n=>A.qO 0 0 b d v u L L' _ _ (w.drewN n) (ha.drewN n) (hd.drewN n) hL hL'
 have hs:A.ft ⟨0,N⟩ ⟨0,M⟩=decide (N=M):=by simp [A.ft]
 rw [hs] at HS
 clear hs hg hh ha hd
 generalize decide (N=M)=r at *
 go_enter Tryz.func10,Tryz.ntmps10
 go_wp2_with fail
 go_quiet ((go_at_call 24;exact Calls.quiet_of (HS.out _)))
 go_wp2
 go_ret
 exact⟨rfl,_,rfl⟩
theorem rW (N:Int):A.im ⟨0,N⟩=dk N:=by unfold A.im;exact if_pos rfl
theorem uX (N:Int):A.to ⟨0,N⟩=A.da N:=by unfold A.to;exact if_pos rfl
theorem WAt.value {w:World} {b:Nat} {v:Value} {N:Int} {L:Nat} (h:A.AccAt w 0 b v L ⟨0,N⟩) (hL:L≤40000):Calls Tryz.prog 12 #[.pointer (some ⟨b,0,none⟩)] w fun r w'=>r=.returned (.float .f64 (dk N))∧Below w.heap.size w w':=by
 have:=A.qK 0 b v L ⟨0,N⟩ w h (Nat.zero_le _) hL
 rw [rW] at this
 exact this
theorem WAt.sign {w:World} {b:Nat} {v:Value} {N:Int} {L:Nat} (h:A.AccAt w 0 b v L ⟨0,N⟩) (hL:L≤40000):Calls Tryz.prog 15 #[.pointer (some ⟨b,0,none⟩)] w fun r w'=>r=.returned (.int .i64 (A.da N))∧w'=w:=by
 have:=A.qL 0 b v L ⟨0,N⟩ w h hL
 rw [uX] at this
 exact this
end Go.Proofs.YtbokkedmfolfdaaGreat
