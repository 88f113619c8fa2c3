/-  -/
import Derived.Test.YtjjlnmihkadlmaaGreatHbl
import Derived.Test.YtjjlnmihkadlmaaGreatHar
import Derived.Test.YtjjlnmihkadlmaaGreatHbg
import Derived.Test.YtjjlnmihkadlmaaGreatHbh
import Derived.Deep.RegionHeld3
import Derived.Test.YtjjlnmihkadlmaaGreatHaw
import Derived.Test.YtjjlnmihkadlmaaGreatHbk
namespace Go.Proofs.YtjjlnmihkadlmaaGreat
open Go.RowKit

theorem qP {kind:Int} {xs:List Int} {ys:List Nat} {E:Int} (ok:OkT kind xs ys) (h:TabR kind xs ys E):E=0:=by
 cases h with
 | ok h=>rfl
 | kind h=>have:=ok.k1;have:=ok.k4;omega
 | len h1 h4 h=>have:=ok.lo;have:=ok.hi;have:=ok.len;omega
 | node h1 h4 lo hi len K hK bad fine=>rw [ok.node K hK] at bad;cases bad
theorem dk {base kind:Int} {ds:List Int} {fs:List Nat} {E:Int} (ok:OkV base kind ds fs) (h:CurR base kind ds fs E):E=0:=by
 cases h with
 | ok h=>rfl
 | base h=>have:=ok.b0;have:=ok.b1;omega
 | kind b0 b1 h=>have:=ok.k1;have:=ok.k4;omega
 | len b0 b1 h1 h4 h=>have:=ok.lo;have:=ok.hi;have:=ok.len;omega
 | node b0 b1 h1 h4 lo hi len K hK bad fine=>rw [ok.node K hK] at bad;cases bad
theorem gX {kind:Int} {xs:List Int} {ys:List Nat} {x:Int} {j k:Nat} (ok:OkT kind xs ys) (h:FindR xs x j) (h':FindR xs x k):j=k:=by
 rcases Nat.lt_trichotomy j k with c | c | c
 ·exfalso
  have a:=h.gt (by have:=h'.lt;omega)
  have b:=h'.le
  rcases Nat.lt_or_eq_of_le (show j+1≤k from c) with d | d
  ·have:=ok.rise d h'.lt;omega
  ·rw [← d] at b;omega
 ·exact c
 ·exfalso
  have a:=h'.gt (by have:=h.lt;omega)
  have b:=h.le
  rcases Nat.lt_or_eq_of_le (show k+1≤j from c) with d | d
  ·have:=ok.rise d h.lt;omega
  ·rw [← d] at b;omega
theorem Fe {kind:Int} {xs:List Int} {ys:List Nat} {x:Int} {V V':Nat} {E E':Int} (ok:OkT kind xs ys) (h:AtO kind xs ys x V E) (h':AtO kind xs ys x V' E'):V=V'∧E=E':=by
 have F:∀ {k E},FindO kind xs ys x k E→E≠0→E=51∧(x<xs.getD 0 0∨xs.getD (xs.length - 1) 0<x):=fun h hE=>by
  cases h with
  | bad E h hE=>exact absurd (qP ok h) hE
  | out h hx=>exact⟨rfl,hx⟩
  | at_=>exact absurd rfl hE
 have G:∀ {k},FindO kind xs ys x k 0→¬ (x<xs.getD 0 0∨xs.getD (xs.length - 1) 0<x):=fun {k} h=>by
  generalize hz:(0:Int)=z at h
  cases h with
  | bad E h hE=>exact absurd hz.symm hE
  | out h hx=>cases hz
  | at_ h a b=>omega
 cases h with
 | err k E h hE=>
  obtain⟨rfl,hx⟩:=F h hE
  cases h' with
  | err k' E' h' hE'=>obtain⟨rfl,_⟩:=F h' hE';exact⟨rfl,rfl⟩
  | node k' _ h'=>exact absurd hx (G h')
  | piece k' D i _ h'=>exact absurd hx (G h')
 | node k _ h hk he=>
  cases h' with
  | err k' E' h' hE'=>exact absurd (F h' hE').2 (G h)
  | node k' _ h' hk' he'=>obtain rfl:=gX ok hk hk';exact⟨rfl,rfl⟩
  | piece k' D i _ h' hk' he' hI=>obtain rfl:=gX ok hk hk';exact absurd he he'
 | piece k D i _ h hk he hI=>
  cases h' with
  | err k' E' h' hE'=>exact absurd (F h' hE').2 (G h)
  | node k' _ h' hk' he'=>obtain rfl:=gX ok hk hk';exact absurd he' he
  | piece k' D' i' _ h' hk' he' hI'=>
   obtain rfl:=gX ok hk hk'
   have hD:D=D':=by have:=hI.hD;have:=hI'.hD;omega
   have hi:i=i':=by have:=hI.hi;have:=hI'.hi;omega
   subst hD hi
   exact⟨rfl,rfl⟩
theorem Df {base kind:Int} {ds:List Int} {fs:List Nat} {x:Int} {V V':Nat} {E E':Int} (ok:OkV base kind ds fs) (h:FacO base kind ds fs x V E) (h':FacO base kind ds fs x V' E'):V=V'∧E=E':=by
 cases h with
 | bad E h hE=>exact absurd (dk ok h) hE
 | ok _ V E hA=>
  cases h' with
  | bad E' h' hE'=>exact absurd (dk ok h') hE'
  | ok _ V' E' hA'=>exact Fe ok.table hA hA'
noncomputable def facV (base kind:Int) (ds:List Int) (fs:List Nat) (x:Int):Nat:=(qO base kind ds fs x).choose
noncomputable def kj (base kind:Int) (ds:List Int) (fs:List Nat) (x:Int):Int:=(qO base kind ds fs x).choose_spec.choose
theorem eu (base kind:Int) (ds:List Int) (fs:List Nat) (x:Int):FacO base kind ds fs x (facV base kind ds fs x) (kj base kind ds fs x):=(qO base kind ds fs x).choose_spec.choose_spec
theorem Ff {base kind:Int} {ds:List Int} {fs:List Nat} {x:Int} {V:Nat} {E:Int} (ok:OkV base kind ds fs) (h:FacO base kind ds fs x V E):facV base kind ds fs x=V∧kj base kind ds fs x=E:=Df ok (eu _ _ _ _ _) h
theorem Dg {base kind:Int} {ds:List Int} {fs:List Nat} {x:Int} (ok:OkV base kind ds fs) (h0:base≤x) (h1:x≤ds.getD (ds.length - 1) 0):kj base kind ds fs x=0:=by
 have h:=eu base kind ds fs x
 generalize facV base kind ds fs x=V at h
 generalize kj base kind ds fs x=E at h
 have lo:=ok.lo
 have hl:(ctX base ds).getD ((ctX base ds).length - 1) 0=ds.getD (ds.length - 1) 0:=by
  rw [qN,gW,Nat.add_sub_cancel]
  obtain⟨m,hm⟩:∃ m,ds.length=m+1:=⟨ds.length - 1,by omega⟩
  rw [hm];rfl
 have hf:(ctX base ds).getD 0 0=base:=rfl
 cases h with
 | bad E h hE=>exact absurd (dk ok h) hE
 | ok _ V E hA=>
  cases hA with
  | err k E h hE=>
   cases h with
   | bad E h hE=>exact absurd (qP ok.table h) hE
   | out h hx=>omega
   | at_=>rfl
  | node=>rfl
  | piece=>rfl
theorem tM {base kind:Int} {ds:List Int} {fs:List Nat} {x:Int} (ok:OkV base kind ds fs) (hf:∀ i<fs.length,fs.getD i 0<18446744073709551616) (hE:kj base kind ds fs x=0):facV base kind ds fs x<18446744073709551616∧0<ae (facV base kind ds fs x:Nat)∧ag (facV base kind ds fs x:Nat)=false:=by
 have h:=eu base kind ds fs x
 rw [hE] at h
 generalize facV base kind ds fs x=V at h
 generalize hz:(0:Int)=z at h
 cases h with
 | bad E h hE=>exact absurd hz.symm hE
 | ok _ V E hA=>subst hz;obtain⟨a,b,c,_⟩:=xF ok hf hA;exact⟨a,c,b⟩
theorem zM {base kind:Int} {ds:List Int} {fs:List Nat} (ok:OkV base kind ds fs) {i:Nat} (hi:i<ds.length):facV base kind ds fs (ds.getD i 0)=fs.getD i 0∧kj base kind ds fs (ds.getD i 0)=0:=Ff ok (.ok ok _ _ (De ok (i:=i+1) hi))
theorem wl (u:Int):ae u≤szI u:=by
 have:0≤szI u:=by unfold szI;omega
 unfold ae;split
 ·omega
 ·split<;>omega
theorem tN {base kind:Int} {ds:List Int} {fs:List Nat} (ok:OkV base kind ds fs):∀ i≤ds.length,ae (prvF fs i:Nat)<9218868437227405312
 | 0,_=>by
  show ae (4607182418800017408:Nat)<9218868437227405312
  decide
 | i+1,hi=>by
  have h:=(fd (ok.node i (by omega))).2.2.1
  show ae (fs.getD i 0:Nat)<9218868437227405312
  unfold bL at h
  rw [decide_eq_true_eq] at h
  have:=wl (fs.getD i 0:Nat)
  omega
theorem tO {u:Int} (hn:ag u=false) (h0:0<ae u) (h:ae u<9218868437227405312):bL u=true:=by
 unfold bL
 rw [decide_eq_true_eq]
 have hs:0≤szI u:=by unfold szI;omega
 unfold ae at h0 h
 rw [hn] at h0 h
 simp only [Bool.false_eq_true,if_false] at h0 h
 split at h0
 ·omega
 ·rename_i hc
  rw [if_neg hc] at h;exact h
theorem Fg {base kind a:Int} {ds:List Int} {fs:List Nat} {W:Nat} (ok:OkV base kind ds fs) (hf:∀ i<fs.length,fs.getD i 0<18446744073709551616) (h:AtO kind (ctX base ds) (ctY fs) a W 0):bL (W:Nat)=true:=by
 obtain⟨p1,p2,p3,_⟩:=xF ok hf h
 obtain⟨k,_,_,hk,h1,h2,h3,h4⟩:=mT h (Dd hf)
 rw [gW] at hk h3 h4
 rw [iK,iK] at h3
 rw [iK] at h4
 refine tO p2 p3 ?_
 have q1:=tN ok k (by omega)
 by_cases hl:k+1<ds.length+1
 ·have:=(h3 hl).2
  have q2:=tN ok (k+1) (by omega)
  omega
 ·have:=h4 hl;omega
theorem tP {base kind:Int} {ds:List Int} {fs:List Nat} {x:Int} (ok:OkV base kind ds fs) (hf:∀ i<fs.length,fs.getD i 0<18446744073709551616) (hE:kj base kind ds fs x=0):bL (facV base kind ds fs x:Nat)=true:=by
 have h:=eu base kind ds fs x
 rw [hE] at h
 generalize facV base kind ds fs x=V at h
 generalize hz:(0:Int)=z at h
 cases h with
 | bad E h hE=>exact absurd hz.symm hE
 | ok _ V E hA=>subst hz;exact Fg ok hf hA
end Go.Proofs.YtjjlnmihkadlmaaGreat
namespace Go.Proofs.YtjjlnmihkadlmaaGreat
open Go.RowKit

structure Cv where
 base:Int
 kind:Int
 ds:List Int
 fs:List Nat
noncomputable def Cv.V (c:Cv) (x:Int):Nat:=facV c.base c.kind c.ds c.fs x
noncomputable def Cv.E (c:Cv) (x:Int):Int:=kj c.base c.kind c.ds c.fs x
def Cv.Ok (c:Cv):Prop:=OkV c.base c.kind c.ds c.fs
def Cv.Chk (c:Cv) (E:Int):Prop:=CurR c.base c.kind c.ds c.fs E
def Cv.Fit (c:Cv):Prop:=∀ i<c.fs.length,c.fs.getD i 0<18446744073709551616
theorem Dh {base kind:Int} {ds:List Int} {fs:List Nat} {E E':Int} (h:CurR base kind ds fs E) (h':CurR base kind ds fs E'):E=E':=by
 cases h with
 | ok h=>exact (dk h h').symm
 | base h=>cases h' with
  | base _=>rfl
  | ok h'=>have:=h'.b0;have:=h'.b1;omega
  | kind b0 b1 _=>omega
  | len b0 b1 _ _ _=>omega
  | node b0 b1 _ _ _ _ _ _ _ _ _=>omega
 | kind b0 b1 h=>cases h' with
  | base _=>omega
  | ok h'=>have:=h'.k1;have:=h'.k4;omega
  | kind _ _ _=>rfl
  | len _ _ h1 h4 _=>omega
  | node _ _ h1 h4 _ _ _ _ _ _ _=>omega
 | len b0 b1 h1 h4 h=>cases h' with
  | base _=>omega
  | ok h'=>have:=h'.lo;have:=h'.hi;have:=h'.len;omega
  | kind _ _ _=>omega
  | len _ _ _ _ _=>rfl
  | node _ _ _ _ _ _ _ _ _ _ _=>rfl
 | node b0 b1 h1 h4 lo hi len K hK bad fine=>cases h' with
  | base _=>omega
  | ok h'=>rw [h'.node K hK] at bad;cases bad
  | kind _ _ _=>omega
  | len _ _ _ _ _=>rfl
  | node _ _ _ _ _ _ _ _ _ _ _=>rfl

def tkB (cur base:Int) (f:Flw):Bool:=decide (f.cur=cur)&&decide (base≤f.day)
inductive VisR (l:List Flw) (cur:Int) (c:Cv):Int→Prop
 | flow (E K:Int) (h:ChkF l E K) (hE:E≠0):VisR l cur c E
 | cur (h:ChkF l 0 0) (hc:¬ (1≤cur∧cur≤8)):VisR l cur c 140
 | curve (h:ChkF l 0 0) (hc:1≤cur∧cur≤8) (E:Int) (hC:c.Chk E) (hE:E≠0):VisR l cur c E
 | fac (h:ChkF l 0 0) (hc:1≤cur∧cur≤8) (ok:c.Ok) (K:Nat) (hK:K<l.length) (tk:tkB cur c.base (l.getD K ak)=true) (E:Int) (he:c.E (l.getD K ak).day=E) (hE:E≠0) (fine:∀ i<K,tkB cur c.base (l.getD i ak)=true→c.E (l.getD i ak).day=0):VisR l cur c E
 | ok (h:ChkF l 0 0) (hc:1≤cur∧cur≤8) (ok:c.Ok) (fine:∀ i<l.length,tkB cur c.base (l.getD i ak)=true→c.E (l.getD i ak).day=0):VisR l cur c 0
theorem cK {l:List Flw} {K:Int} (h:ChkF l 0 K):K=0:=by
 generalize hz:(0:Int)=z at h
 cases h with
 | many h=>cases hz
 | fine=>rfl
 | bad hl k hk e he h0 h=>exact absurd hz.symm h0
theorem gB {l:List Flw} {cur:Int} {c:Cv} {E E':Int} (h:VisR l cur c E) (h':VisR l cur c E'):E=E':=by
 cases h with
 | flow E K h hE=>cases h' with
  | flow E' K' h' hE'=>exact (aj h h').1
  | cur h' _=>exact absurd (aj h h').1 hE
  | curve h' _ _ _ _=>exact absurd (aj h h').1 hE
  | fac h' _ _ _ _ _ _ _ _ _=>exact absurd (aj h h').1 hE
  | ok h' _ _ _=>exact absurd (aj h h').1 hE
 | cur h hc=>cases h' with
  | flow E' K' h' hE'=>exact absurd (aj h' h).1 hE'
  | cur _ _=>rfl
  | curve _ hc' _ _ _=>exact absurd hc' hc
  | fac _ hc' _ _ _ _ _ _ _ _=>exact absurd hc' hc
  | ok _ hc' _ _=>exact absurd hc' hc
 | curve h hc E hC hE=>cases h' with
  | flow E' K' h' hE'=>exact absurd (aj h' h).1 hE'
  | cur _ hc'=>exact absurd hc hc'
  | curve _ _ E' hC' _=>exact Dh hC hC'
  | fac _ _ ok _ _ _ _ _ _ _=>exact absurd (dk ok hC) hE
  | ok _ _ ok _=>exact absurd (dk ok hC) hE
 | fac h hc ok K hK tk E he hE fine=>cases h' with
  | flow E' K' h' hE'=>exact absurd (aj h' h).1 hE'
  | cur _ hc'=>exact absurd hc hc'
  | curve _ _ E' hC' hE'=>exact absurd (dk ok hC') hE'
  | fac _ _ _ K' hK' tk' E' he' hE' fine'=>
   rcases Nat.lt_trichotomy K K' with d | d | d
   ·exact absurd (he.symm.trans (fine' K d tk)) hE
   ·subst d;exact he.symm.trans he'
   ·exact absurd (he'.symm.trans (fine K' d tk')) hE'
  | ok _ _ _ fine'=>exact absurd (he.symm.trans (fine' K hK tk)) hE
 | ok h hc ok fine=>cases h' with
  | flow E' K' h' hE'=>exact absurd (aj h' h).1 hE'
  | cur _ hc'=>exact absurd hc hc'
  | curve _ _ E' hC' hE'=>exact absurd (dk ok hC') hE'
  | fac _ _ _ K' hK' tk' E' he' hE' fine'=>exact absurd (he'.symm.trans (fine K' hK' tk')) hE'
  | ok _ _ _ _=>rfl
structure FineP (l:List Flw) (cur:Int) (c:Cv):Prop where
 len:l.length≤4096
 bad:∀ f ∈ l,dl f=0
 cu:1≤cur∧cur≤8
 ok:c.Ok
 fac:∀ f ∈ l,tkB cur c.base f=true→c.E f.day=0
theorem fe {l:List Flw} {i:Nat} (h:i<l.length):l.getD i ak ∈ l:=by
 have:l.getD i ak=l[i]:=by simp [List.getD,List.getElem?_eq_getElem h]
 rw [this];exact List.getElem_mem h
theorem kl {l:List Flw} {f:Flw} (h:f ∈ l):∃ i,i<l.length∧l.getD i ak=f:=by
 obtain⟨i,hi,e⟩:=List.getElem_of_mem h
 exact⟨i,hi,by simp [List.getD,List.getElem?_eq_getElem hi,e]⟩
theorem zN {l:List Flw} {cur:Int} {c:Cv} (h:FineP l cur c):VisR l cur c 0:=
 .ok (.fine h.len (fun _ hi=>h.bad _ (fe hi))) h.cu h.ok (fun _ hi ht=>h.fac _ (fe hi) ht)
noncomputable def prI (c:Cv) (f:Flw):Int:=(A.ju (f.am:Int) (c.V f.day:Int)).N
noncomputable def ctI (cur:Int) (c:Cv) (f:Flw):Int:=if tkB cur c.base f=true then prI c f else 0
noncomputable def wsI (cur:Int) (c:Cv):List Flw→Int
 | []=>0
 | f::l=>ctI cur c f+wsI cur c l
theorem mV (cur:Int) (c:Cv):∀ a b:List Flw,wsI cur c (a++b)=wsI cur c a+wsI cur c b
 | [],b=>by simp [wsI]
 | f::a,b=>by simp only [List.cons_append,wsI];rw [mV cur c a b,Int.add_assoc]
theorem wt {l:List Flw} {k:Nat} (hk:k<l.length):l.take (k+1)=l.take k++[l.getD k ak]:=by
 have:l.getD k ak=l[k]:=by simp [List.getD,List.getElem?_eq_getElem hk]
 rw [this,List.take_succ_eq_append_getElem hk]
theorem tQ {cur:Int} {c:Cv} {l:List Flw} {k:Nat} (hk:k<l.length):wsI cur c (l.take (k+1))=wsI cur c (l.take k)+ctI cur c (l.getD k ak):=by
 rw [wt hk,mV];simp [wsI]
def Fh (x:Nat):Nat:=if bL (x:Int)=true then x else 0
def Fi (x:Nat):Int:=if bL (x:Int)=true then 0 else 91
theorem GD {f:Flw} (h:dl f=0):bL (f.am:Int)=true:=by
 unfold dl at h
 split at h
 ·cases h
 ·split at h
  ·cases h
  ·rename_i _ h2
   cases hb:bL (f.am:Int)
   ·exact absurd hb h2
   ·rfl
theorem Cv.num {c:Cv} {x:Int} (ok:c.Ok) (hf:c.Fit) (h:c.E x=0):c.V x<18446744073709551616∧0<ae (c.V x:Nat)∧ag (c.V x:Nat)=false:=tM ok hf h
end Go.Proofs.YtjjlnmihkadlmaaGreat
namespace Go.Proofs.YtjjlnmihkadlmaaGreat
open Go.RowKit

end Go.Proofs.YtjjlnmihkadlmaaGreat
namespace Go.Proofs.YtjjlnmihkadlmaaGreat
open Go.RowKit

theorem GH {w:World} {B B' b L:Nat} {v:Value} {a:A.St} (h:A.AccAt w B b v L a) (hk:∀ k,A.Ft b v k→B'≤k):A.AccAt w B' b v L a:=by
 obtain⟨xs,ho,hl,hs⟩:=h.own
 refine⟨h.blk,hk b (Or.inl rfl),⟨xs,⟨⟨ho.own.1,?_⟩,ho.fit⟩,hl,hs⟩,h.ne,h.ok⟩
 rcases ho.own.2 with h6 | ⟨g,cap,cur,h6,h7,rest⟩
 ·exact .inl h6
 ·exact .inr ⟨g,cap,cur,h6,hk g (Or.inr (by rw [h6];rfl)),rest⟩
structure WAt (w:World) (g:Nat) (N:Int) (L:Nat):Prop where
 ex:∃ b v,w.heap[g]? =some (.cells #[.pointer (some ⟨b,0,none⟩)] 113)∧A.AccAt w 0 b v L ⟨0,N⟩
theorem WAt.below {w w':World} {g:Nat} {N:Int} {L:Nat} (h:WAt w g N L) (hb:Below w.heap.size w w'):WAt w' g N L:=by
 obtain⟨b,v,h1,h2⟩:=h.ex
 exact⟨b,v,(hb.block g (Array.getElem?_eq_some_iff.1 h1).1).trans h1,h2.below hb⟩
theorem cz {B:Nat} {w w':World} (h:Below B w w') (n:Nat):Below B w (w'.drewN n):=⟨h.os,h.tape,h.output,h.size,h.block⟩
theorem WAt.lt {w:World} {g:Nat} {N:Int} {L:Nat} (h:WAt w g N L):g<w.heap.size:=by
 obtain⟨b,v,h1,_⟩:=h.ex
 exact (Array.getElem?_eq_some_iff.1 h1).1
theorem WAt.at_ {w:World} {g:Nat} {N:Int} {L:Nat} (h:WAt w g N L):∃ b v,w.cell? ⟨g,0,none⟩=some (.pointer (some ⟨b,0,none⟩))∧A.AccAt w 0 b v L ⟨0,N⟩:=by
 obtain⟨b,v,h1,h2⟩:=h.ex
 exact⟨b,v,by simp [World.cell?,h1],h2⟩
theorem qV {w:World} {b:Nat} {v:Value} {L:Nat} {N:Int} (h:A.AccAt w 0 b v L ⟨0,N⟩):WAt (w.alloc (.cells #[.pointer (some ⟨b,0,none⟩)] 113)) w.heap.size N L:=
 ⟨b,v,heap_alloc_new _ _,h.below ((Below.refl _ _).alloc (Nat.le_refl _) _)⟩
set_option maxHeartbeats 800000 in
theorem qX (w:World):Calls Tryz.prog 81 #[] w fun e w'=>∃ g,e=.returned (.pointer (some ⟨g,0,none⟩))∧WAt w' g 0 70∧Below w.heap.size w w':=by
 have HN:=hideS (A.kX w 0 (Nat.zero_le _))
 go_enter Tryz.func81,Tryz.ntmps81
 go_wp2_with fail
 refine HN.out.mono ?_
 rintro e w2 ⟨rfl,ha,hb⟩
 have HW:=hideS (qV (ha.mono (L':=70) (by omega)))
 have HB:=hideS (hb.alloc hb.size (.cells #[.pointer (some ⟨w.heap.size,0,none⟩)] 113))
 clear ha hb HN
 go_wp2_with fail
 go_ret
 exact⟨_,rfl,HW.out,HB.out⟩
set_option maxHeartbeats 1600000 in
theorem zT (g h:Nat) (N M:Int) (L L':Nat) (w:World) (hg:WAt w g N L) (hh:WAt w h M L') (hL:L≤40000) (hL':L'≤40000) :
  Calls Tryz.prog 55 #[.pointer (some ⟨g,0,none⟩),.pointer (some ⟨h,0,none⟩)] w fun e w'=>∃ r,e=.returned (.pointer (some ⟨r,0,none⟩))∧WAt w' r (N+M) (max L L'+1)∧Below w.heap.size w w':=by
 obtain⟨b,v,c0,ha⟩:=hg.at_
 obtain⟨d,u,e0,hd⟩:=hh.at_
 have HC:=hideS (A.BL 0 b v L _ w ha (Nat.zero_le _) hL)
 have HH:=hideS hh
 have HD:=hideS hd
 have hlt:=hh.lt
 clear hg hh ha hd
 go_enter Tryz.func55,Tryz.ntmps55
 go_wp2_with fail
 refine HC.out.mono ?_
 rintro e w2 ⟨c2,v2,rfl,ha2,hf2,hb2⟩
 have e2:w2.cell? ⟨h,0,none⟩=some (.pointer (some ⟨d,0,none⟩)):=(hb2.cell (p:=⟨h,0,none⟩) hlt).trans e0
 have HM:=hideS (A.yL 0 c2 d v2 u L L' _ _ w2 ha2 (HD.out.below hb2) (fun k h1 h2=>by have:=hf2 k h1;have:=(HD.out.base k h2).2;omega) (Nat.zero_le _) hL hL')
 have HF2:=hideS hf2
 have HB2:=hideS hb2
 have HA2:=hideS ha2
 clear ha2 hf2 hb2 HC c0 e0 hlt
 go_wp2_with fail
 refine HM.out.mono ?_
 rintro e w3 ⟨rfl,v3,hd3⟩
 have HW3:=hideS (qV hd3.acc)
 have HB3:Hid (Below w.heap.size w w3):=HB2.out.trans (hd3.wrote.below (fun k hk=>HF2.out k hk) HB2.out.size)
 have HB4:=hideS (HB3.out.alloc HB3.out.size (.cells #[.pointer (some ⟨c2,0,none⟩)] 113))
 clear hd3 HM e2
 go_wp2_with fail
 go_ret
 exact⟨_,rfl,HW3.out,HB4.out⟩
theorem zU (N:Int):A.mc ⟨0,N⟩=jR N:=by unfold A.mc;exact if_pos rfl
theorem WAt.value {w:World} {b:Nat} {v:Value} {N:Int} {L:Nat} (h:A.AccAt w 0 b v L ⟨0,N⟩) (hL:L≤40000):Calls Tryz.prog 33 #[.pointer (some ⟨b,0,none⟩)] w fun r w'=>r=.returned (.float .f64 (jR N))∧Below w.heap.size w w':=by
 have:=A.yJ 0 b v L ⟨0,N⟩ w h (Nat.zero_le _) hL
 rw [zU] at this
 exact this
end Go.Proofs.YtjjlnmihkadlmaaGreat
namespace Go.Proofs.YtjjlnmihkadlmaaGreat
open Go.RowKit

def qW (x y:Nat):Nat:=qR (aV x) (aV y)
theorem GN (x y:Nat):qW x y≤9218868437227405312:=Gf _ _
theorem pg {x:Nat} (h1:x<9218868437227405312):af x∧sB x=false∧x % 9223372036854775808=x:=by
 unfold af sB
 refine⟨by omega,?_,by omega⟩
 rw [show x / 9223372036854775808=0 by omega]
 rfl
theorem Fo {x y:Nat} (x0:0<x) (x1:x<9218868437227405312) (y0:0<y) (y1:y<9218868437227405312):floatBits .quo .f64 x y=some (qW x y):=by
 obtain⟨hx,sx,mx⟩:=pg x1
 obtain⟨hy,sy,my⟩:=pg y1
 obtain⟨r,hr,h1,h2,h3⟩:=jv hx hy (by omega)
 have hk:54+(mg (y % 9223372036854775808)).log2 - (mg (x % 9223372036854775808)).log2≤pl (x % 9223372036854775808)+2200 - pl (y % 9223372036854775808):=by
  have hpx:=qw hx
  have hpy:=qw hy
  have hl:(mg (y % 9223372036854775808)).log2<53:=(Nat.log2_lt (eD (by omega))).2 (by have:=lh (y % 9223372036854775808);omega)
  omega
 have hq:=gQ hx hy (by omega) (by omega) rfl rfl rfl rfl hk
 have e1:∀ k,wrd (false^^false) k=k:=fun k=>rfl
 have e2:∀ k:Nat,sgZ (false^^false) k=(k:Int):=fun k=>rfl
 rw [sx,sy,e1,hr] at hq
 injection hq with hq
 have e:r≤9218868437227405312:=by rw [hq];exact eX _ _
 rw [dK e,sx,sy,e2] at h1
 have h4:r=qR (aV x) (aV y):=Int.ofNat.inj h1
 rw [hr,h4]
 unfold qW
 rfl
theorem ph {x:Nat} (h:jE x=true) (hx:x<18446744073709551616):0<x∧x<9218868437227405312:=by
 unfold jE at h
 rw [Bool.and_eq_true] at h
 obtain⟨h1,h2⟩:=h
 obtain⟨a,b⟩:=tT hx h2
 unfold bL at h1
 rw [decide_eq_true_eq,szN,Nat.mod_eq_of_lt a] at h1
 refine⟨Nat.pos_of_ne_zero fun c=>?_,by omega⟩
 subst c
 revert h2
 decide
theorem zV {base kind:Int} {ds:List Int} {fs:List Nat} (ok:OkV base kind ds fs) (hf:∀ i<fs.length,fs.getD i 0<18446744073709551616) {i:Nat} (hi:i<ds.length):0<fs.getD i 0∧fs.getD i 0<9218868437227405312:=
 ph ((nodC_two.1 (ok.node i hi)).2) (hf i (by rw [ok.len];exact hi))
theorem pj {base kind:Int} {ds:List Int} {fs:List Nat} {x:Int} (ok:OkV base kind ds fs) (hf:∀ i<fs.length,fs.getD i 0<18446744073709551616) (hE:kj base kind ds fs x=0):0<facV base kind ds fs x∧facV base kind ds fs x<9218868437227405312:=by
 obtain⟨a,b,c⟩:=tM ok hf hE
 have d:=tP ok hf hE
 refine ph ?_ a
 unfold jE
 rw [d]
 have:ltB ((0:Nat):Int) (facV base kind ds fs x:Nat)=true:=by
  rw [ax (by decide) c]
  exact decide_eq_true (by show ae 0<_;rw [show ae 0=0 by decide];omega)
 exact this
theorem OkV.rise {base kind:Int} {ds:List Int} {fs:List Nat} (ok:OkV base kind ds fs) {i j:Nat} (hij:i<j) (hj:j<ds.length):ds.getD i 0<ds.getD j 0:=by
 have:=ok.table.rise (i:=i+1) (j:=j+1) (by omega) (by rw [gW];omega)
 exact this
structure SkN (ds:List Int) (n:Int) (s:Nat):Prop where
 lt:s<ds.length
 le:∀ i<s,ds.getD i 0≤n
 gt:∀ i,s≤i→i<ds.length→n<ds.getD i 0
theorem GO {base kind n:Int} {ds:List Int} {fs:List Nat} (ok:OkV base kind ds fs) (hn:n<ds.getD (ds.length - 1) 0):∃ s,SkN ds n s:=by
 have lo:=ok.lo
 obtain⟨k,hk,h1,h2⟩:=cU (p:=fun i=>decide (n<ds.getD i 0)) ds.length ⟨ds.length - 1,by omega,decide_eq_true hn⟩
 have h1':n<ds.getD k 0:=of_decide_eq_true h1
 refine⟨k,hk,fun i hi=>?_,fun i hi hl=>?_⟩
 ·have:=of_decide_eq_false (h2 i hi)
  omega
 ·rcases Nat.lt_or_eq_of_le hi with c | c
  ·have:=ok.rise c hl
   omega
  ·rw [← c];exact h1'
def qL (fs:List Nat) (F s:Nat):List Nat:=(fs.drop s).map fun f=>qW f F
def gdQ (q:Nat):Prop:=0<q∧q<9218868437227405312
instance (q:Nat):Decidable (gdQ q):=by unfold gdQ;infer_instance
theorem FD (fs:List Nat) (F:Nat) {s j:Nat} (h:s+j<fs.length):(qL fs F s).getD j 0=qW (fs.getD (s+j) 0) F:=by
 unfold qL
 rw [List.getD_eq_getElem?_getD,List.getElem?_map,List.getElem?_drop,List.getElem?_eq_getElem h,List.getD_eq_getElem?_getD,List.getElem?_eq_getElem h]
 rfl
theorem mY {α:Type} (l:List α) (d:α) {s k:Nat} (h0:s≤k) (h:k<l.length):(l.drop s).take (k+1 - s)=(l.drop s).take (k - s)++[l.getD k d]:=by
 rw [show k+1 - s=(k - s)+1 by omega,List.take_add_one,List.getElem?_drop,show s+(k - s)=k by omega,List.getElem?_eq_getElem h,List.getD_eq_getElem?_getD,List.getElem?_eq_getElem h]
 rfl
end Go.Proofs.YtjjlnmihkadlmaaGreat
