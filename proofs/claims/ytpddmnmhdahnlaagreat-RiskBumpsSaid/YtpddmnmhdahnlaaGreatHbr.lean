/-  -/
import Derived.Test.YtpddmnmhdahnlaaGreatHbq
import Derived.Test.YtpddmnmhdahnlaaGreatJfB
import Derived.Test.YtpddmnmhdahnlaaGreatHbl
import Derived.Test.YtpddmnmhdahnlaaGreatHbm
import Derived.Deep.RegionHeld3
namespace Go.Proofs.YtpddmnmhdahnlaaGreat
open Go.RowKit

theorem Jr {kind:Int} {xs:List Int} {ys:List Nat} {E:Int} (ok:OkT kind xs ys) (h:TabR kind xs ys E):E=0:=by
 cases h with
 | ok h=>rfl
 | kind h=>have:=ok.k1;have:=ok.k4;omega
 | len h1 h4 h=>have:=ok.lo;have:=ok.hi;have:=ok.len;omega
 | node h1 h4 lo hi len K hK bad fine=>rw [ok.node K hK] at bad;cases bad
theorem gG {base kind:Int} {ds:List Int} {fs:List Nat} {E:Int} (ok:OkV base kind ds fs) (h:CurR base kind ds fs E):E=0:=by
 cases h with
 | ok h=>rfl
 | base h=>have:=ok.b0;have:=ok.b1;omega
 | kind b0 b1 h=>have:=ok.k1;have:=ok.k4;omega
 | len b0 b1 h1 h4 h=>have:=ok.lo;have:=ok.hi;have:=ok.len;omega
 | node b0 b1 h1 h4 lo hi len K hK bad fine=>rw [ok.node K hK] at bad;cases bad
theorem iO {kind:Int} {xs:List Int} {ys:List Nat} {x:Int} {j k:Nat} (ok:OkT kind xs ys) (h:FindR xs x j) (h':FindR xs x k):j=k:=by
 rcases Nat.lt_trichotomy j k with c | c | c
 ·exfalso
  have a:=h.gt (by have:=h'.lt;omega)
  have b:=h'.le
  rcases Nat.lt_or_eq_of_le (show j+1≤k from c) with d | d
  ·have:=ok.rise d h'.lt;omega
  ·rw [← d] at b;omega
 ·exact c
 ·exfalso
  have a:=h'.gt (by have:=h.lt;omega)
  have b:=h.le
  rcases Nat.lt_or_eq_of_le (show k+1≤j from c) with d | d
  ·have:=ok.rise d h.lt;omega
  ·rw [← d] at b;omega
theorem Js {kind:Int} {xs:List Int} {ys:List Nat} {x:Int} {V V':Nat} {E E':Int} (ok:OkT kind xs ys) (h:AtO kind xs ys x V E) (h':AtO kind xs ys x V' E'):V=V'∧E=E':=by
 have F:∀ {k E},FindO kind xs ys x k E→E≠0→E=51∧(x<xs.getD 0 0∨xs.getD (xs.length - 1) 0<x):=fun h hE=>by
  cases h with
  | bad E h hE=>exact absurd (Jr ok h) hE
  | out h hx=>exact⟨rfl,hx⟩
  | at_=>exact absurd rfl hE
 have G:∀ {k},FindO kind xs ys x k 0→¬ (x<xs.getD 0 0∨xs.getD (xs.length - 1) 0<x):=fun {k} h=>by
  generalize hz:(0:Int)=z at h
  cases h with
  | bad E h hE=>exact absurd hz.symm hE
  | out h hx=>cases hz
  | at_ h a b=>omega
 cases h with
 | err k E h hE=>
  obtain⟨rfl,hx⟩:=F h hE
  cases h' with
  | err k' E' h' hE'=>obtain⟨rfl,_⟩:=F h' hE';exact⟨rfl,rfl⟩
  | node k' _ h'=>exact absurd hx (G h')
  | piece k' D i _ h'=>exact absurd hx (G h')
 | node k _ h hk he=>
  cases h' with
  | err k' E' h' hE'=>exact absurd (F h' hE').2 (G h)
  | node k' _ h' hk' he'=>obtain rfl:=iO ok hk hk';exact⟨rfl,rfl⟩
  | piece k' D i _ h' hk' he' hI=>obtain rfl:=iO ok hk hk';exact absurd he he'
 | piece k D i _ h hk he hI=>
  cases h' with
  | err k' E' h' hE'=>exact absurd (F h' hE').2 (G h)
  | node k' _ h' hk' he'=>obtain rfl:=iO ok hk hk';exact absurd he' he
  | piece k' D' i' _ h' hk' he' hI'=>
   obtain rfl:=iO ok hk hk'
   have hD:D=D':=by have:=hI.hD;have:=hI'.hD;omega
   have hi:i=i':=by have:=hI.hi;have:=hI'.hi;omega
   subst hD hi
   exact⟨rfl,rfl⟩
theorem FP {base kind:Int} {ds:List Int} {fs:List Nat} {x:Int} {V V':Nat} {E E':Int} (ok:OkV base kind ds fs) (h:FacO base kind ds fs x V E) (h':FacO base kind ds fs x V' E'):V=V'∧E=E':=by
 cases h with
 | bad E h hE=>exact absurd (gG ok h) hE
 | ok _ V E hA=>
  cases h' with
  | bad E' h' hE'=>exact absurd (gG ok h') hE'
  | ok _ V' E' hA'=>exact Js ok.table hA hA'
noncomputable def facV (base kind:Int) (ds:List Int) (fs:List Nat) (x:Int):Nat:=(tp base kind ds fs x).choose
noncomputable def Cs (base kind:Int) (ds:List Int) (fs:List Nat) (x:Int):Int:=(tp base kind ds fs x).choose_spec.choose
theorem mL (base kind:Int) (ds:List Int) (fs:List Nat) (x:Int):FacO base kind ds fs x (facV base kind ds fs x) (Cs base kind ds fs x):=(tp base kind ds fs x).choose_spec.choose_spec
theorem Jt {base kind:Int} {ds:List Int} {fs:List Nat} {x:Int} {V:Nat} {E:Int} (ok:OkV base kind ds fs) (h:FacO base kind ds fs x V E):facV base kind ds fs x=V∧Cs base kind ds fs x=E:=FP ok (mL _ _ _ _ _) h
theorem FQ {base kind:Int} {ds:List Int} {fs:List Nat} {x:Int} (ok:OkV base kind ds fs) (hf:∀ i<fs.length,fs.getD i 0<18446744073709551616) (hE:Cs base kind ds fs x=0):facV base kind ds fs x<18446744073709551616∧0<aa (facV base kind ds fs x:Nat)∧ag (facV base kind ds fs x:Nat)=false:=by
 have h:=mL base kind ds fs x
 rw [hE] at h
 generalize facV base kind ds fs x=V at h
 generalize hz:(0:Int)=z at h
 cases h with
 | bad E h hE=>exact absurd hz.symm hE
 | ok _ V E hA=>subst hz;obtain⟨a,b,c,_⟩:=Az ok hf hA;exact⟨a,c,b⟩
theorem Ct {base kind:Int} {ds:List Int} {fs:List Nat} (ok:OkV base kind ds fs) {i:Nat} (hi:i<ds.length):facV base kind ds fs (ds.getD i 0)=fs.getD i 0∧Cs base kind ds fs (ds.getD i 0)=0:=Jt ok (.ok ok _ _ (FO ok (i:=i+1) hi))
theorem yF (u:Int):aa u≤szI u:=by
 have:0≤szI u:=by unfold szI;omega
 unfold aa;split
 ·omega
 ·split<;>omega
theorem vS {base kind:Int} {ds:List Int} {fs:List Nat} (ok:OkV base kind ds fs):∀ i≤ds.length,aa (prvF fs i:Nat)<9218868437227405312
 | 0,_=>by
  show aa (4607182418800017408:Nat)<9218868437227405312
  decide
 | i+1,hi=>by
  have h:=(bN (ok.node i (by omega))).2.2.1
  show aa (fs.getD i 0:Nat)<9218868437227405312
  unfold aH at h
  rw [decide_eq_true_eq] at h
  have:=yF (fs.getD i 0:Nat)
  omega
theorem vT {u:Int} (hn:ag u=false) (h0:0<aa u) (h:aa u<9218868437227405312):aH u=true:=by
 unfold aH
 rw [decide_eq_true_eq]
 have hs:0≤szI u:=by unfold szI;omega
 unfold aa at h0 h
 rw [hn] at h0 h
 simp only [Bool.false_eq_true,if_false] at h0 h
 split at h0
 ·omega
 ·rename_i hc
  rw [if_neg hc] at h;exact h
theorem Ju {base kind a:Int} {ds:List Int} {fs:List Nat} {W:Nat} (ok:OkV base kind ds fs) (hf:∀ i<fs.length,fs.getD i 0<18446744073709551616) (h:AtO kind (ctX base ds) (ctY fs) a W 0):aH (W:Nat)=true:=by
 obtain⟨p1,p2,p3,_⟩:=Az ok hf h
 obtain⟨k,_,_,hk,h1,h2,h3,h4⟩:=vR h (Kz hf)
 rw [mK] at hk h3 h4
 rw [jw,jw] at h3
 rw [jw] at h4
 refine vT p2 p3 ?_
 have q1:=vS ok k (by omega)
 by_cases hl:k+1<ds.length+1
 ·have:=(h3 hl).2
  have q2:=vS ok (k+1) (by omega)
  omega
 ·have:=h4 hl;omega
theorem FR {base kind:Int} {ds:List Int} {fs:List Nat} {x:Int} (ok:OkV base kind ds fs) (hf:∀ i<fs.length,fs.getD i 0<18446744073709551616) (hE:Cs base kind ds fs x=0):aH (facV base kind ds fs x:Nat)=true:=by
 have h:=mL base kind ds fs x
 rw [hE] at h
 generalize facV base kind ds fs x=V at h
 generalize hz:(0:Int)=z at h
 cases h with
 | bad E h hE=>exact absurd hz.symm hE
 | ok _ V E hA=>subst hz;exact Ju ok hf hA
end Go.Proofs.YtpddmnmhdahnlaaGreat
namespace Go.Proofs.YtpddmnmhdahnlaaGreat
open Go.RowKit

structure Cv where
 base:Int
 kind:Int
 ds:List Int
 fs:List Nat
noncomputable def Cv.V (c:Cv) (x:Int):Nat:=facV c.base c.kind c.ds c.fs x
noncomputable def Cv.E (c:Cv) (x:Int):Int:=Cs c.base c.kind c.ds c.fs x
def Cv.Ok (c:Cv):Prop:=OkV c.base c.kind c.ds c.fs
def Cv.Chk (c:Cv) (E:Int):Prop:=CurR c.base c.kind c.ds c.fs E
def Cv.Fit (c:Cv):Prop:=∀ i<c.fs.length,c.fs.getD i 0<18446744073709551616
theorem FY {base kind:Int} {ds:List Int} {fs:List Nat} {E E':Int} (h:CurR base kind ds fs E) (h':CurR base kind ds fs E'):E=E':=by
 cases h with
 | ok h=>exact (gG h h').symm
 | base h=>cases h' with
  | base _=>rfl
  | ok h'=>have:=h'.b0;have:=h'.b1;omega
  | kind b0 b1 _=>omega
  | len b0 b1 _ _ _=>omega
  | node b0 b1 _ _ _ _ _ _ _ _ _=>omega
 | kind b0 b1 h=>cases h' with
  | base _=>omega
  | ok h'=>have:=h'.k1;have:=h'.k4;omega
  | kind _ _ _=>rfl
  | len _ _ h1 h4 _=>omega
  | node _ _ h1 h4 _ _ _ _ _ _ _=>omega
 | len b0 b1 h1 h4 h=>cases h' with
  | base _=>omega
  | ok h'=>have:=h'.lo;have:=h'.hi;have:=h'.len;omega
  | kind _ _ _=>omega
  | len _ _ _ _ _=>rfl
  | node _ _ _ _ _ _ _ _ _ _ _=>rfl
 | node b0 b1 h1 h4 lo hi len K hK bad fine=>cases h' with
  | base _=>omega
  | ok h'=>rw [h'.node K hK] at bad;cases bad
  | kind _ _ _=>omega
  | len _ _ _ _ _=>rfl
  | node _ _ _ _ _ _ _ _ _ _ _=>rfl

def tkB (cur base:Int) (f:Flw):Bool:=decide (f.cur=cur)&&decide (base≤f.day)
inductive VisR (l:List Flw) (cur:Int) (c:Cv):Int→Prop
 | flow (E K:Int) (h:ChkF l E K) (hE:E≠0):VisR l cur c E
 | cur (h:ChkF l 0 0) (hc:¬ (1≤cur∧cur≤8)):VisR l cur c 140
 | curve (h:ChkF l 0 0) (hc:1≤cur∧cur≤8) (E:Int) (hC:c.Chk E) (hE:E≠0):VisR l cur c E
 | fac (h:ChkF l 0 0) (hc:1≤cur∧cur≤8) (ok:c.Ok) (K:Nat) (hK:K<l.length) (tk:tkB cur c.base (l.getD K aO)=true) (E:Int) (he:c.E (l.getD K aO).day=E) (hE:E≠0) (fine:∀ i<K,tkB cur c.base (l.getD i aO)=true→c.E (l.getD i aO).day=0):VisR l cur c E
 | ok (h:ChkF l 0 0) (hc:1≤cur∧cur≤8) (ok:c.Ok) (fine:∀ i<l.length,tkB cur c.base (l.getD i aO)=true→c.E (l.getD i aO).day=0):VisR l cur c 0
theorem rG {l:List Flw} {K:Int} (h:ChkF l 0 K):K=0:=by
 generalize hz:(0:Int)=z at h
 cases h with
 | many h=>cases hz
 | fine=>rfl
 | bad hl k hk e he h0 h=>exact absurd hz.symm h0
theorem vis_from (l:List Flw) (cur:Int) (c:Cv):∀ n,(∀ i<n,tkB cur c.base (l.getD i aO)=true→c.E (l.getD i aO).day=0)∨∃ k<n,tkB cur c.base (l.getD k aO)=true∧c.E (l.getD k aO).day≠0∧∀ i<k,tkB cur c.base (l.getD i aO)=true→c.E (l.getD i aO).day=0
 | 0=>Or.inl (fun i hi=>by omega)
 | n+1=>by
  rcases vis_from l cur c n with h | ⟨k,hk,ht,h0,h⟩
  ·by_cases d:tkB cur c.base (l.getD n aO)=true∧c.E (l.getD n aO).day≠0
   ·exact Or.inr ⟨n,by omega,d.1,d.2,h⟩
   ·refine Or.inl (fun i hi ht=>?_)
    by_cases d2:i<n
    ·exact h i d2 ht
    ·obtain rfl:i=n:=by omega
     exact Classical.byContradiction fun hn=>d ⟨ht,hn⟩
  ·exact Or.inr ⟨k,by omega,ht,h0,h⟩
theorem Jv (l:List Flw) (cur:Int) (c:Cv):∃ E,VisR l cur c E:=by
 obtain⟨e,k,h⟩:=AB l
 by_cases he:e=0
 ·subst he
  obtain rfl:=rG h
  by_cases hc:1≤cur∧cur≤8
  ·obtain⟨E,hE⟩:=ko c.base c.kind c.ds c.fs
   by_cases hz:E=0
   ·subst hz
    rcases vis_from l cur c l.length with hf | ⟨K,hK,ht,h0,hf⟩
    ·exact⟨0,.ok h hc (gF hE) hf⟩
    ·exact⟨_,.fac h hc (gF hE) K hK ht _ rfl h0 hf⟩
   ·exact⟨E,.curve h hc E hE hz⟩
  ·exact⟨140,.cur h hc⟩
 ·exact⟨e,.flow e k h he⟩
theorem eC {l:List Flw} {cur:Int} {c:Cv} {E E':Int} (h:VisR l cur c E) (h':VisR l cur c E'):E=E':=by
 cases h with
 | flow E K h hE=>cases h' with
  | flow E' K' h' hE'=>exact (aM h h').1
  | cur h' _=>exact absurd (aM h h').1 hE
  | curve h' _ _ _ _=>exact absurd (aM h h').1 hE
  | fac h' _ _ _ _ _ _ _ _ _=>exact absurd (aM h h').1 hE
  | ok h' _ _ _=>exact absurd (aM h h').1 hE
 | cur h hc=>cases h' with
  | flow E' K' h' hE'=>exact absurd (aM h' h).1 hE'
  | cur _ _=>rfl
  | curve _ hc' _ _ _=>exact absurd hc' hc
  | fac _ hc' _ _ _ _ _ _ _ _=>exact absurd hc' hc
  | ok _ hc' _ _=>exact absurd hc' hc
 | curve h hc E hC hE=>cases h' with
  | flow E' K' h' hE'=>exact absurd (aM h' h).1 hE'
  | cur _ hc'=>exact absurd hc hc'
  | curve _ _ E' hC' _=>exact FY hC hC'
  | fac _ _ ok _ _ _ _ _ _ _=>exact absurd (gG ok hC) hE
  | ok _ _ ok _=>exact absurd (gG ok hC) hE
 | fac h hc ok K hK tk E he hE fine=>cases h' with
  | flow E' K' h' hE'=>exact absurd (aM h' h).1 hE'
  | cur _ hc'=>exact absurd hc hc'
  | curve _ _ E' hC' hE'=>exact absurd (gG ok hC') hE'
  | fac _ _ _ K' hK' tk' E' he' hE' fine'=>
   rcases Nat.lt_trichotomy K K' with d | d | d
   ·exact absurd (he.symm.trans (fine' K d tk)) hE
   ·subst d;exact he.symm.trans he'
   ·exact absurd (he'.symm.trans (fine K' d tk')) hE'
  | ok _ _ _ fine'=>exact absurd (he.symm.trans (fine' K hK tk)) hE
 | ok h hc ok fine=>cases h' with
  | flow E' K' h' hE'=>exact absurd (aM h' h).1 hE'
  | cur _ hc'=>exact absurd hc hc'
  | curve _ _ E' hC' hE'=>exact absurd (gG ok hC') hE'
  | fac _ _ _ K' hK' tk' E' he' hE' fine'=>exact absurd (he'.symm.trans (fine K' hK' tk')) hE'
  | ok _ _ _ _=>rfl
structure FineP (l:List Flw) (cur:Int) (c:Cv):Prop where
 len:l.length≤4096
 bad:∀ f ∈ l,gH f=0
 cu:1≤cur∧cur≤8
 ok:c.Ok
 fac:∀ f ∈ l,tkB cur c.base f=true→c.E f.day=0
theorem rH {l:List Flw} {i:Nat} (h:i<l.length):l.getD i aO ∈ l:=by
 have:l.getD i aO=l[i]:=by simp [List.getD,List.getElem?_eq_getElem h]
 rw [this];exact List.getElem_mem h
theorem rJ {l:List Flw} {f:Flw} (h:f ∈ l):∃ i,i<l.length∧l.getD i aO=f:=by
 obtain⟨i,hi,e⟩:=List.getElem_of_mem h
 exact⟨i,hi,by simp [List.getD,List.getElem?_eq_getElem hi,e]⟩
theorem rK {l:List Flw} {cur:Int} {c:Cv} (h:VisR l cur c 0):FineP l cur c:=by
 generalize hz:(0:Int)=z at h
 cases h with
 | flow E K h hE=>exact absurd hz.symm hE
 | cur=>cases hz
 | curve h hc E hC hE=>exact absurd hz.symm hE
 | fac h hc ok K hK tk E he hE fine=>exact absurd hz.symm hE
 | ok h hc ok fine=>
  have hF:l.length≤4096∧∀ i<l.length,gH (l.getD i aO)=0:=by
   generalize hz:(0:Int)=z at h
   cases h with
   | fine hl h=>exact⟨hl,h⟩
   | bad hl k hk e he h0 h=>exact absurd hz.symm h0
  refine⟨hF.1,fun f hf=>?_,hc,ok,fun f hf ht=>?_⟩
  ·obtain⟨i,hi,rfl⟩:=rJ hf
   exact hF.2 i hi
  ·obtain⟨i,hi,rfl⟩:=rJ hf
   exact fine i hi ht
theorem rL {l:List Flw} {cur:Int} {c:Cv} (h:FineP l cur c):VisR l cur c 0:=
 .ok (.fine h.len (fun _ hi=>h.bad _ (rH hi))) h.cu h.ok (fun _ hi ht=>h.fac _ (rH hi) ht)
theorem rM {l:List Flw} {cur E:Int} {c:Cv} (h:VisR l cur c E):E=0↔FineP l cur c:=
 ⟨fun e=>rK (e▸h),fun f=>eC h (rL f)⟩
noncomputable def prI (c:Cv) (f:Flw):Int:=(A.jc (f.am:Int) (c.V f.day:Int)).N
noncomputable def ctI (cur:Int) (c:Cv) (f:Flw):Int:=if tkB cur c.base f=true then prI c f else 0
noncomputable def wsI (cur:Int) (c:Cv):List Flw→Int
 | []=>0
 | f::l=>ctI cur c f+wsI cur c l
theorem oN (cur:Int) (c:Cv):∀ a b:List Flw,wsI cur c (a++b)=wsI cur c a+wsI cur c b
 | [],b=>by simp [wsI]
 | f::a,b=>by simp only [List.cons_append,wsI];rw [oN cur c a b,Int.add_assoc]
theorem yH {l:List Flw} {k:Nat} (hk:k<l.length):l.take (k+1)=l.take k++[l.getD k aO]:=by
 have:l.getD k aO=l[k]:=by simp [List.getD,List.getElem?_eq_getElem hk]
 rw [this,List.take_succ_eq_append_getElem hk]
theorem vV {cur:Int} {c:Cv} {l:List Flw} {k:Nat} (hk:k<l.length):wsI cur c (l.take (k+1))=wsI cur c (l.take k)+ctI cur c (l.getD k aO):=by
 rw [yH hk,oN];simp [wsI]
def mr (x:Nat):Nat:=if aH (x:Int)=true then x else 0
def ms (x:Nat):Int:=if aH (x:Int)=true then 0 else 91
theorem Lx {f:Flw} (h:gH f=0):aH (f.am:Int)=true:=by
 unfold gH at h
 split at h
 ·cases h
 ·split at h
  ·cases h
  ·rename_i _ h2
   cases hb:aH (f.am:Int)
   ·exact absurd hb h2
   ·rfl
theorem Cv.num {c:Cv} {x:Int} (ok:c.Ok) (hf:c.Fit) (h:c.E x=0):c.V x<18446744073709551616∧0<aa (c.V x:Nat)∧ag (c.V x:Nat)=false:=FQ ok hf h
end Go.Proofs.YtpddmnmhdahnlaaGreat
namespace Go.Proofs.YtpddmnmhdahnlaaGreat
open Go.RowKit

def awX:List Int:=[0,10,20]
def awY:List Nat:=[0,4621819117588971520,4630826316843712512]
structure AwB (w wr:World):Prop where
 t0:wr.cell? ⟨w.heap.size+1+1,0,none⟩=some (.int .i64 3)
 t1:wr.cell? ⟨w.heap.size+1+1,1,none⟩=some (.slice (some ⟨w.heap.size,0,none⟩) 3 3)
 t2:wr.cell? ⟨w.heap.size+1+1,2,none⟩=some (.slice (some ⟨w.heap.size+1,0,none⟩) 3 3)
 src:TFl wr (some ⟨w.heap.size,0,none⟩) (some ⟨w.heap.size+1,0,none⟩) w.heap.size 0 (w.heap.size+1) 0 awX awY
 bl:Below w.heap.size w wr
 lt:w.heap.size+1+1<wr.heap.size
theorem AwB.step {w wr w':World} (h:AwB w wr) (hb:Below wr.heap.size wr w'):AwB w w':=
 ⟨(hb.cell (p:=⟨w.heap.size+1+1,0,none⟩) h.lt).trans h.t0,(hb.cell (p:=⟨w.heap.size+1+1,1,none⟩) h.lt).trans h.t1,(hb.cell (p:=⟨w.heap.size+1+1,2,none⟩) h.lt).trans h.t2,h.src.below hb,h.bl.trans (hb.mono h.bl.size),Nat.lt_of_lt_of_le h.lt hb.size⟩
end Go.Proofs.YtpddmnmhdahnlaaGreat
namespace Go.Proofs.YtpddmnmhdahnlaaGreat
open Go.RowKit

theorem LA {w:World} {B B' b L:Nat} {v:Value} {a:A.St} (h:A.AccAt w B b v L a) (hk:∀ k,A.Ft b v k→B'≤k):A.AccAt w B' b v L a:=by
 obtain⟨xs,ho,hl,hs⟩:=h.own
 refine⟨h.blk,hk b (Or.inl rfl),⟨xs,⟨⟨ho.own.1,?_⟩,ho.fit⟩,hl,hs⟩,h.ne,h.ok⟩
 rcases ho.own.2 with h6 | ⟨g,cap,cur,h6,h7,rest⟩
 ·exact .inl h6
 ·exact .inr ⟨g,cap,cur,h6,hk g (Or.inr (by rw [h6];rfl)),rest⟩
structure WAt (w:World) (g:Nat) (N:Int) (L:Nat):Prop where
 ex:∃ b v,w.heap[g]? =some (.cells #[.pointer (some ⟨b,0,none⟩)] 119)∧A.AccAt w 0 b v L ⟨0,N⟩
theorem WAt.below {w w':World} {g:Nat} {N:Int} {L:Nat} (h:WAt w g N L) (hb:Below w.heap.size w w'):WAt w' g N L:=by
 obtain⟨b,v,h1,h2⟩:=h.ex
 exact⟨b,v,(hb.block g (Array.getElem?_eq_some_iff.1 h1).1).trans h1,h2.below hb⟩
theorem WAt.drewN {w:World} {g:Nat} {N:Int} {L:Nat} (h:WAt w g N L) (n:Nat):WAt (w.drewN n) g N L:=by
 obtain⟨b,v,h1,h2⟩:=h.ex
 exact⟨b,v,h1,h2.drewN n⟩
theorem WAt.lt {w:World} {g:Nat} {N:Int} {L:Nat} (h:WAt w g N L):g<w.heap.size:=by
 obtain⟨b,v,h1,_⟩:=h.ex
 exact (Array.getElem?_eq_some_iff.1 h1).1
theorem WAt.at_ {w:World} {g:Nat} {N:Int} {L:Nat} (h:WAt w g N L):∃ b v,w.cell? ⟨g,0,none⟩=some (.pointer (some ⟨b,0,none⟩))∧A.AccAt w 0 b v L ⟨0,N⟩:=by
 obtain⟨b,v,h1,h2⟩:=h.ex
 exact⟨b,v,by simp [World.cell?,h1],h2⟩
theorem Jy {w:World} {b:Nat} {v:Value} {L:Nat} {N:Int} (h:A.AccAt w 0 b v L ⟨0,N⟩):WAt (w.alloc (.cells #[.pointer (some ⟨b,0,none⟩)] 119)) w.heap.size N L:=
 ⟨b,v,heap_alloc_new _ _,h.below ((Below.refl _ _).alloc (Nat.le_refl _) _)⟩
theorem CE (N:Int):A.nT ⟨0,N⟩=iV N:=by unfold A.nT;exact if_pos rfl
theorem WAt.value {w:World} {b:Nat} {v:Value} {N:Int} {L:Nat} (h:A.AccAt w 0 b v L ⟨0,N⟩) (hL:L≤40000):Calls Tryz.prog 73 #[.pointer (some ⟨b,0,none⟩)] w fun r w'=>r=.returned (.float .f64 (iV N))∧Below w.heap.size w w':=by
 have:=A.BC 0 b v L ⟨0,N⟩ w h (Nat.zero_le _) hL
 rw [CE] at this
 exact this
end Go.Proofs.YtpddmnmhdahnlaaGreat
