/-  -/
import Derived.Test.YtfdddijdjpijbaaGreatHbo
import Derived.Test.YtfdddijdjpijbaaGreatHax
import Derived.Test.YtfdddijdjpijbaaGreatHbi
import Derived.Test.YtfdddijdjpijbaaGreatHbj
import Derived.Deep.RegionHeld3
namespace Go.Proofs.YtfdddijdjpijbaaGreat
open Go.RowKit
theorem Nv {kind:Int} {xs:List Int} {ys:List Nat} {E:Int} (ok:OkT kind xs ys) (h:TabR kind xs ys E):E=0:=by
 cases h with
 | ok h=>rfl
 | kind h=>have:=ok.k1;have:=ok.k4;omega
 | len e c h=>have:=ok.lo;have:=ok.hi;have:=ok.len;omega
 | node e c lo hi len K d a b=>rw [ok.node K d] at a;cases a
theorem iO {base kind:Int} {d:List Int} {f:List Nat} {E:Int} (ok:OkV base kind d f) (h:CurR base kind d f E):E=0:=by
 cases h with
 | ok h=>rfl
 | base h=>have:=ok.b0;have:=ok.b1;omega
 | kind c e h=>have:=ok.k1;have:=ok.k4;omega
 | len c e j g h=>have:=ok.lo;have:=ok.hi;have:=ok.len;omega
 | node c e j g lo hi len K i a b=>rw [ok.node K i] at a;cases a
theorem kc {kind:Int} {xs:List Int} {ys:List Nat} {x:Int} {j k:Nat} (f:OkT kind xs ys) (h:FindR xs x j) (e:FindR xs x k):j=k:=by
 rcases Nat.lt_trichotomy j k with c | c | c
 ·exfalso
  have a:=h.gt (by have:=e.lt;omega)
  have b:=e.le;rcases Nat.lt_or_eq_of_le (show j+1<=k from c) with d | d
  ·have:=f.rise d e.lt;omega
  ·rw [<- d] at b;omega
 ·exact c
 ·exfalso
  have a:=e.gt (by have:=h.lt;omega)
  have b:=h.le;rcases Nat.lt_or_eq_of_le (show k+1<=j from c) with d | d
  ·have:=f.rise d h.lt;omega
  ·rw [<- d] at b;omega
theorem Nw {kind:Int} {xs:List Int} {ys:List Nat} {x:Int} {V s:Nat} {E m:Int} (o:OkT kind xs ys) (h:AtO kind xs ys x V E) (c:AtO kind xs ys x s m):V=s/\E=m:=by
 have F:∀ {k E},FindO kind xs ys x k E->E≠0->E=51/\(x<xs.getD 0 0\/xs.getD (xs.length - 1) 0<x):=fun h j=>by
  cases h with
  | bad E h j=>exact absurd (Nv o h) j
  | out h n=>exact⟨rfl,n⟩
  | at_=>exact absurd rfl j
 have G:∀ {k},FindO kind xs ys x k 0->¬ (x<xs.getD 0 0\/xs.getD (xs.length - 1) 0<x):=fun {k} h=>by
  generalize t:(0:Int)=z at h
  cases h with
  | bad E h j=>exact absurd t.symm j
  | out h n=>cases t
  | at_ h a b=>omega
 cases h with
 | err k E h j=>
  obtain⟨rfl,n⟩:=F h j;cases c with
  | err g m c e=>obtain⟨rfl,_⟩:=F c e;exact⟨rfl,rfl⟩
  | node g _ c=>exact absurd n (G c)
  | piece g D i _ c=>exact absurd n (G c)
 | node k _ h p r=>
  cases c with
  | err g m c e=>exact absurd (F c e).2 (G h)
  | node g _ c d f=>obtain rfl:=kc o p d;exact⟨rfl,rfl⟩
  | piece g D i _ c d f q=>obtain rfl:=kc o p d;exact absurd r f
 | piece k D i _ h p r q=>
  cases c with
  | err g m c e=>exact absurd (F c e).2 (G h)
  | node g _ c d f=>obtain rfl:=kc o p d;exact absurd f r
  | piece g u w _ c d f l=>
   obtain rfl:=kc o p d;have v:D=u:=by have:=q.hD;have:=l.hD;omega
   have hi:i=w:=by have:=q.hi;have:=l.hi;omega
   subst v hi;exact⟨rfl,rfl⟩
theorem Ku {base kind:Int} {e:List Int} {g:List Nat} {x:Int} {V d:Nat} {E a:Int} (ok:OkV base kind e g) (h:FacO base kind e g x V E) (f:FacO base kind e g x d a):V=d/\E=a:=by
 cases h with
 | bad E h i=>exact absurd (iO ok h) i
 | ok _ V E j=>
  cases f with
  | bad a f b=>exact absurd (iO ok f) b
  | ok _ d a c=>exact Nw ok.table j c
noncomputable def facV (base kind:Int) (a:List Int) (b:List Nat) (x:Int):Nat:=(ww base kind a b x).choose
noncomputable def Gc (base kind:Int) (a:List Int) (b:List Nat) (x:Int):Int:=(ww base kind a b x).choose_spec.choose
theorem lZ (base kind:Int) (a:List Int) (b:List Nat) (x:Int):FacO base kind a b x (facV base kind a b x) (Gc base kind a b x):=(ww base kind a b x).choose_spec.choose_spec
theorem Nx {base kind:Int} {a:List Int} {b:List Nat} {x:Int} {V:Nat} {E:Int} (c:OkV base kind a b) (h:FacO base kind a b x V E):facV base kind a b x=V/\Gc base kind a b x=E:=Ku c (lZ _ _ _ _ _) h
theorem Kv {base kind:Int} {e:List Int} {d:List Nat} {x:Int} (ok:OkV base kind e d) (j:∀ i<d.length,d.getD i 0<18446744073709551616) (f:Gc base kind e d x=0):facV base kind e d x<18446744073709551616/\0<ae (facV base kind e d x:Nat)/\ah (facV base kind e d x:Nat)=false:=by
 have h:=lZ base kind e d x;rw [f] at h
 generalize facV base kind e d x=V at h
 generalize g:(0:Int)=z at h
 cases h with
 | bad E h f=>exact absurd g.symm f
 | ok _ V E k=>subst g;obtain⟨a,b,c,_⟩:=DT ok j k;exact⟨a,c,b⟩
theorem Gd {base kind:Int} {a:List Int} {b:List Nat} (c:OkV base kind a b) {i:Nat} (hi:i<a.length):facV base kind a b (a.getD i 0)=b.getD i 0/\Gc base kind a b (a.getD i 0)=0:=Nx c (.ok c _ _ (Kt c (i:=i+1) hi))
theorem BX (u:Int):ae u<=szI u:=by
 have:0<=szI u:=by unfold szI;omega
 unfold ae;split
 ·omega
 ·split<;>omega
theorem zl {base kind:Int} {b:List Int} {a:List Nat} (c:OkV base kind b a):∀ i≤b.length,ae (prvF a i:Nat)<9218868437227405312
 | 0,_=>by
  show ae (4607182418800017408:Nat)<9218868437227405312
  decide
 | i+1,hi=>by
  have h:=(co (c.node i (by omega))).2.2.1
  show ae (a.getD i 0:Nat)<9218868437227405312
  unfold aE at h
  rw [decide_eq_true_eq] at h
  have:=BX (a.getD i 0:Nat);omega
theorem zm {u:Int} (hn:ah u=false) (a:0<ae u) (h:ae u<9218868437227405312):aE u=true:=by
 unfold aE;rw [decide_eq_true_eq];have c:0<=szI u:=by unfold szI;omega
 unfold ae at a h
 rw [hn] at a h
 simp only [Bool.false_eq_true,if_false] at a h
 split at a
 ·omega
 ·rename_i b;rw [if_neg b] at h;exact h
theorem Ny {base kind a:Int} {f:List Int} {b:List Nat} {W:Nat} (d:OkV base kind f b) (g:∀ i<b.length,b.getD i 0<18446744073709551616) (h:AtO kind (ctX base f) (ctY b) a W 0):aE (W:Nat)=true:=by
 obtain⟨o,m,l,_⟩:=DT d g h;obtain⟨k,_,_,n,q,p,c,e⟩:=zk h (OK g);rw [oY] at n c e
 rw [kS,kS] at c
 rw [kS] at e
 refine zm m l ?_
 have r:=zl d k (by omega)
 by_cases j:k+1<f.length+1
 ·have:=(c j).2;have s:=zl d (k+1) (by omega)
  omega
 ·have:=e j;omega
theorem Kw {base kind:Int} {b:List Int} {a:List Nat} {x:Int} (ok:OkV base kind b a) (e:∀ i<a.length,a.getD i 0<18446744073709551616) (c:Gc base kind b a x=0):aE (facV base kind b a x:Nat)=true:=by
 have h:=lZ base kind b a x;rw [c] at h
 generalize facV base kind b a x=V at h
 generalize d:(0:Int)=z at h
 cases h with
 | bad E h c=>exact absurd d.symm c
 | ok _ V E f=>subst d;exact Ny ok e f
structure Cv where
 base:Int
 kind:Int
 ds:List Int
 fs:List Nat
noncomputable def Cv.V (c:Cv) (x:Int):Nat:=facV c.base c.kind c.ds c.fs x
noncomputable def Cv.E (c:Cv) (x:Int):Int:=Gc c.base c.kind c.ds c.fs x
def Cv.Ok (c:Cv):Prop:=OkV c.base c.kind c.ds c.fs
def Cv.Chk (c:Cv) (E:Int):Prop:=CurR c.base c.kind c.ds c.fs E
def Cv.Fit (c:Cv):Prop:=∀ i<c.fs.length,c.fs.getD i 0<18446744073709551616
theorem KD {base kind:Int} {k:List Int} {i:List Nat} {E g:Int} (h:CurR base kind k i E) (a:CurR base kind k i g):E=g:=by
 cases h with
 | ok h=>exact (iO h a).symm
 | base h=>cases a with
  | base _=>rfl
  | ok a=>have:=a.b0;have:=a.b1;omega
  | kind b c _=>omega
  | len b c _ _ _=>omega
  | node b c _ _ _ _ _ _ _ _ _=>omega
 | kind b c h=>cases a with
  | base _=>omega
  | ok a=>have:=a.k1;have:=a.k4;omega
  | kind _ _ _=>rfl
  | len _ _ e f _=>omega
  | node _ _ e f _ _ _ _ _ _ _=>omega
 | len b c e f h=>cases a with
  | base _=>omega
  | ok a=>have:=a.lo;have:=a.hi;have:=a.len;omega
  | kind _ _ _=>omega
  | len _ _ _ _ _=>rfl
  | node _ _ _ _ _ _ _ _ _ _ _=>rfl
 | node b c e f lo hi len K l d j=>cases a with
  | base _=>omega
  | ok a=>rw [a.node K l] at d;cases d
  | kind _ _ _=>omega
  | len _ _ _ _ _=>rfl
  | node _ _ _ _ _ _ _ _ _ _ _=>rfl
def tkB (cur base:Int) (f:Flw):Bool:=decide (f.cur=cur)&&decide (base<=f.day)
inductive VisR (l:List Flw) (cur:Int) (c:Cv):Int->Prop
 | flow (E K:Int) (h:ChkF l E K) (hE:E≠0):VisR l cur c E
 | cur (h:ChkF l 0 0) (hc:¬ (1<=cur/\cur<=8)):VisR l cur c 140
 | curve (h:ChkF l 0 0) (hc:1<=cur/\cur<=8) (E:Int) (hC:c.Chk E) (hE:E≠0):VisR l cur c E
 | fac (h:ChkF l 0 0) (hc:1<=cur/\cur<=8) (ok:c.Ok) (K:Nat) (hK:K<l.length) (tk:tkB cur c.base (l.getD K aC)=true) (E:Int) (he:c.E (l.getD K aC).day=E) (hE:E≠0) (fine:∀ i<K,tkB cur c.base (l.getD i aC)=true->c.E (l.getD i aC).day=0):VisR l cur c E
 | ok (h:ChkF l 0 0) (hc:1<=cur/\cur<=8) (ok:c.Ok) (fine:∀ i<l.length,tkB cur c.base (l.getD i aC)=true->c.E (l.getD i aC).day=0):VisR l cur c 0
theorem ke {l:List Flw} {K:Int} (h:ChkF l 0 K):K=0:=by
 generalize a:(0:Int)=z at h
 cases h with
 | many h=>cases a
 | fine=>rfl
 | bad d k f e c b h=>exact absurd a.symm b
theorem vis_from (l:List Flw) (cur:Int) (c:Cv):∀ n,(∀ i<n,tkB cur c.base (l.getD i aC)=true->c.E (l.getD i aC).day=0)\/∃ k<n,tkB cur c.base (l.getD k aC)=true/\c.E (l.getD k aC).day≠0/\∀ i<k,tkB cur c.base (l.getD i aC)=true->c.E (l.getD i aC).day=0
 | 0=>Or.inl (fun i hi=>by omega)
 | n+1=>by
  rcases vis_from l cur c n with h | ⟨k,g,a,b,h⟩
  ·by_cases d:tkB cur c.base (l.getD n aC)=true/\c.E (l.getD n aC).day≠0
   ·exact Or.inr ⟨n,by omega,d.1,d.2,h⟩
   ·refine Or.inl (fun i hi a=>?_)
    by_cases e:i<n
    ·exact h i e a
    ·obtain rfl:i=n:=by omega
     exact Classical.byContradiction fun f=>d ⟨a,f⟩
  ·exact Or.inr ⟨k,by omega,a,b,h⟩
theorem DW (l:List Flw) (cur:Int) (c:Cv):∃ E,VisR l cur c E:=by
 obtain⟨e,k,h⟩:=wF l
 by_cases f:e=0
 ·subst f;obtain rfl:=ke h
  by_cases a:1<=cur/\cur<=8
  ·obtain⟨E,d⟩:=oX c.base c.kind c.ds c.fs
   by_cases g:E=0
   ·subst g;rcases vis_from l cur c l.length with b | ⟨K,j,m,i,b⟩
    ·exact⟨0,.ok h a (ka d) b⟩
    ·exact⟨_,.fac h a (ka d) K j m _ rfl i b⟩
   ·exact⟨E,.curve h a E d g⟩
  ·exact⟨140,.cur h a⟩
 ·exact⟨e,.flow e k h f⟩
theorem bR {l:List Flw} {cur:Int} {c:Cv} {E g:Int} (h:VisR l cur c E) (b:VisR l cur c g):E=g:=by
 cases h with
 | flow E K h k=>cases b with
  | flow g m b a=>exact (aM h b).1
  | cur b _=>exact absurd (aM h b).1 k
  | curve b _ _ _ _=>exact absurd (aM h b).1 k
  | fac b _ _ _ _ _ _ _ _ _=>exact absurd (aM h b).1 k
  | ok b _ _ _=>exact absurd (aM h b).1 k
 | cur h o=>cases b with
  | flow g m b a=>exact absurd (aM b h).1 a
  | cur _ _=>rfl
  | curve _ e _ _ _=>exact absurd e o
  | fac _ e _ _ _ _ _ _ _ _=>exact absurd e o
  | ok _ e _ _=>exact absurd e o
 | curve h o E s k=>cases b with
  | flow g m b a=>exact absurd (aM b h).1 a
  | cur _ e=>exact absurd o e
  | curve _ _ g i _=>exact KD s i
  | fac _ _ ok _ _ _ _ _ _ _=>exact absurd (iO ok s) k
  | ok _ _ ok _=>exact absurd (iO ok s) k
 | fac h o ok K u t E r k j=>cases b with
  | flow g m b a=>exact absurd (aM b h).1 a
  | cur _ e=>exact absurd o e
  | curve _ _ g i a=>exact absurd (iO ok i) a
  | fac _ _ _ m q p g n a f=>
   rcases Nat.lt_trichotomy K m with d | d | d
   ·exact absurd (r.symm.trans (f K d t)) k
   ·subst d;exact r.symm.trans n
   ·exact absurd (n.symm.trans (j m d p)) a
  | ok _ _ _ f=>exact absurd (r.symm.trans (f K u t)) k
 | ok h o ok j=>cases b with
  | flow g m b a=>exact absurd (aM b h).1 a
  | cur _ e=>exact absurd o e
  | curve _ _ g i a=>exact absurd (iO ok i) a
  | fac _ _ _ m q p g n a f=>exact absurd (n.symm.trans (j m q p)) a
  | ok _ _ _ _=>rfl
structure FineP (l:List Flw) (cur:Int) (c:Cv):Prop where
 len:l.length<=4096
 bad:∀ f ∈ l,fZ f=0
 cu:1<=cur/\cur<=8
 ok:c.Ok
 fac:∀ f ∈ l,tkB cur c.base f=true->c.E f.day=0
theorem tZ {l:List Flw} {i:Nat} (h:i<l.length):l.getD i aC ∈ l:=by
 have:l.getD i aC=l[i]:=by simp [List.getD,List.getElem?_eq_getElem h]
 rw [this];exact List.getElem_mem h
theorem uc {l:List Flw} {f:Flw} (h:f ∈ l):∃ i,i<l.length/\l.getD i aC=f:=by
 obtain⟨i,hi,e⟩:=List.getElem_of_mem h;exact⟨i,hi,by simp [List.getD,List.getElem?_eq_getElem hi,e]⟩
theorem ue {l:List Flw} {cur:Int} {c:Cv} (h:VisR l cur c 0):FineP l cur c:=by
 generalize a:(0:Int)=z at h
 cases h with
 | flow E K h b=>exact absurd a.symm b
 | cur=>cases a
 | curve h g E r b=>exact absurd a.symm b
 | fac h g ok K q p E m b fine=>exact absurd a.symm b
 | ok h g ok fine=>
  have hF:l.length<=4096/\∀ i<l.length,fZ (l.getD i aC)=0:=by
   generalize a:(0:Int)=z at h
   cases h with
   | fine j h=>exact⟨j,h⟩
   | bad j k s e m n h=>exact absurd a.symm n
  refine⟨hF.1,fun f d=>?_,g,ok,fun f d o=>?_⟩
  ·obtain⟨i,hi,rfl⟩:=uc d;exact hF.2 i hi
  ·obtain⟨i,hi,rfl⟩:=uc d;exact fine i hi o
theorem ug {l:List Flw} {cur:Int} {c:Cv} (h:FineP l cur c):VisR l cur c 0:=
 .ok (.fine h.len (fun _ hi=>h.bad _ (tZ hi))) h.cu h.ok (fun _ hi a=>h.fac _ (tZ hi) a)
theorem kg {l:List Flw} {cur E:Int} {c:Cv} (h:VisR l cur c E):E=0↔FineP l cur c:=
 ⟨fun e=>ue (e▸h),fun f=>bR h (ug f)⟩
noncomputable def prI (c:Cv) (f:Flw):Int:=(A.fR (f.am:Int) (c.V f.day:Int)).N
noncomputable def ctI (cur:Int) (c:Cv) (f:Flw):Int:=if tkB cur c.base f=true then prI c f else 0
noncomputable def wsI (cur:Int) (c:Cv):List Flw->Int
 | []=>0
 | f::l=>ctI cur c f+wsI cur c l
theorem qY (cur:Int) (c:Cv):∀ a b:List Flw,wsI cur c (a++b)=wsI cur c a+wsI cur c b
 | [],b=>by simp [wsI]
 | f::a,b=>by simp only [List.cons_append,wsI];rw [qY cur c a b,Int.add_assoc]
theorem Ca {l:List Flw} {k:Nat} (a:k<l.length):l.take (k+1)=l.take k++[l.getD k aC]:=by
 have:l.getD k aC=l[k]:=by simp [List.getD,List.getElem?_eq_getElem a]
 rw [this,List.take_succ_eq_append_getElem a]
theorem qZ {cur:Int} {c:Cv} {l:List Flw} {k:Nat} (a:k<l.length):wsI cur c (l.take (k+1))=wsI cur c (l.take k)+ctI cur c (l.getD k aC):=by
 rw [Ca a,qY];simp [wsI]
def tldV (x:Nat):Nat:=if aE (x:Int)=true then x else 0
def fU (x:Nat):Int:=if aE (x:Int)=true then 0 else 91
theorem PX {f:Flw} (h:fZ f=0):aE (f.am:Int)=true:=by
 unfold fZ at h
 split at h
 ·cases h
 ·split at h
  ·cases h
  ·rename_i _ b;cases a:aE (f.am:Int)
   ·exact absurd a b
   ·rfl
theorem Cv.num {c:Cv} {x:Int} (b:c.Ok) (a:c.Fit) (h:c.E x=0):c.V x<18446744073709551616/\0<ae (c.V x:Nat)/\ah (c.V x:Nat)=false:=Kv b a h
def awX:List Int:=[0,10,20]
def awY:List Nat:=[0,4621819117588971520,4630826316843712512]
structure AwB (w wr:World):Prop where
 t0:wr.cell? ⟨w.heap.size+1+1,0,none⟩=some (.int .i64 3)
 t1:wr.cell? ⟨w.heap.size+1+1,1,none⟩=some (.slice (some ⟨w.heap.size,0,none⟩) 3 3)
 t2:wr.cell? ⟨w.heap.size+1+1,2,none⟩=some (.slice (some ⟨w.heap.size+1,0,none⟩) 3 3)
 src:TFl wr (some ⟨w.heap.size,0,none⟩) (some ⟨w.heap.size+1,0,none⟩) w.heap.size 0 (w.heap.size+1) 0 awX awY
 bl:Below w.heap.size w wr
 lt:w.heap.size+1+1<wr.heap.size
theorem AwB.step {w wr b:World} (h:AwB w wr) (a:Below wr.heap.size wr b):AwB w b:=
 ⟨(a.cell (p:=⟨w.heap.size+1+1,0,none⟩) h.lt).trans h.t0,(a.cell (p:=⟨w.heap.size+1+1,1,none⟩) h.lt).trans h.t1,(a.cell (p:=⟨w.heap.size+1+1,2,none⟩) h.lt).trans h.t2,h.src.below a,h.bl.trans (a.mono h.bl.size),Nat.lt_of_lt_of_le h.lt a.size⟩
theorem Qa {w:World} {B B' b L:Nat} {v:Value} {a:A.St} (h:A.AccAt w B b v L a) (i:∀ k,A.Ft b v k->B'<=k):A.AccAt w B' b v L a:=by
 obtain⟨j,f,m,l⟩:=h.own;refine⟨h.blk,i b (Or.inl rfl),⟨j,⟨⟨f.own.1,?_⟩,f.fit⟩,m,l⟩,h.ne,h.ok⟩
 rcases f.own.2 with c | ⟨g,e,d,c,n,rest⟩
 ·exact .inl c
 ·exact .inr ⟨g,e,d,c,i g (Or.inr (by rw [c];rfl)),rest⟩
structure WAt (w:World) (g:Nat) (N:Int) (L:Nat):Prop where
 ex:∃ b v,w.heap[g]? =some (.cells #[.pointer (some ⟨b,0,none⟩)] 106)/\A.AccAt w 0 b v L ⟨0,N⟩
theorem WAt.below {w a:World} {g:Nat} {N:Int} {L:Nat} (h:WAt w g N L) (c:Below w.heap.size w a):WAt a g N L:=by
 obtain⟨b,v,d,e⟩:=h.ex;exact⟨b,v,(c.block g (Array.getElem?_eq_some_iff.1 d).1).trans d,e.below c⟩
theorem WAt.drewN {w:World} {g:Nat} {N:Int} {L:Nat} (h:WAt w g N L) (n:Nat):WAt (w.drewN n) g N L:=by
 obtain⟨b,v,c,a⟩:=h.ex;exact⟨b,v,c,a.drewN n⟩
theorem NE {B:Nat} {w a:World} (h:Below B w a) (n:Nat):Below B w (a.drewN n):=⟨h.os,h.tape,h.output,h.size,h.block⟩
theorem WAt.lt {w:World} {g:Nat} {N:Int} {L:Nat} (h:WAt w g N L):g<w.heap.size:=by
 obtain⟨b,v,a,_⟩:=h.ex;exact (Array.getElem?_eq_some_iff.1 a).1
theorem WAt.at_ {w:World} {g:Nat} {N:Int} {L:Nat} (h:WAt w g N L):∃ b v,w.cell? ⟨g,0,none⟩=some (.pointer (some ⟨b,0,none⟩))/\A.AccAt w 0 b v L ⟨0,N⟩:=by
 obtain⟨b,v,c,a⟩:=h.ex;exact⟨b,v,by simp [World.cell?,c],a⟩
theorem NF {w:World} {b:Nat} {v:Value} {L:Nat} {N:Int} (h:A.AccAt w 0 b v L ⟨0,N⟩):WAt (w.alloc (.cells #[.pointer (some ⟨b,0,none⟩)] 106)) w.heap.size N L:=
 ⟨b,v,heap_alloc_new _ _,h.below ((Below.refl _ _).alloc (Nat.le_refl _) _)⟩
theorem Gp (N:Int):A.cS ⟨0,N⟩=valF N:=by unfold A.cS;exact if_pos rfl
theorem WAt.value {w:World} {b:Nat} {v:Value} {N:Int} {L:Nat} (h:A.AccAt w 0 b v L ⟨0,N⟩) (c:L<=40000):Calls Tryz.prog 59 #[.pointer (some ⟨b,0,none⟩)] w fun r a=>r=.returned (.float .f64 (valF N))/\Below w.heap.size w a:=by
 have:=A.EY 0 b v L ⟨0,N⟩ w h (Nat.zero_le _) c;rw [Gp] at this
 exact this
end Go.Proofs.YtfdddijdjpijbaaGreat
