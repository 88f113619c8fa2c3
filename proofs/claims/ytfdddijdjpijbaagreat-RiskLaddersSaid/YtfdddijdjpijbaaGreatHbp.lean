/-  -/
import Derived.Test.YtfdddijdjpijbaaGreatHbo
import Derived.Test.YtfdddijdjpijbaaGreatHax
import Derived.Test.YtfdddijdjpijbaaGreatHbi
import Derived.Test.YtfdddijdjpijbaaGreatHbj
import Derived.Deep.RegionHeld3
namespace Go.Proofs.YtfdddijdjpijbaaGreat
open Go.RowKit
theorem MQ {kind:Int} {xs:List Int} {ys:List Nat} {E:Int} (ok:OkT kind xs ys) (h:TabR kind xs ys E):E=0:=by
 cases h with
 | ok h=>rfl
 | kind h=>have:=ok.k1;have:=ok.k4;omega
 | len e c h=>have:=ok.lo;have:=ok.hi;have:=ok.len;omega
 | node e c lo hi len K d a b=>rw [ok.node K d] at a;cases a
theorem iH {base kind:Int} {d:List Int} {e:List Nat} {E:Int} (ok:OkV base kind d e) (h:CurR base kind d e E):E=0:=by
 cases h with
 | ok h=>rfl
 | base h=>have:=ok.b0;have:=ok.b1;omega
 | kind b f h=>have:=ok.k1;have:=ok.k4;omega
 | len b f j g h=>have:=ok.lo;have:=ok.hi;have:=ok.len;omega
 | node b f j g lo hi len K i a c=>rw [ok.node K i] at a;cases a
theorem jS {kind:Int} {xs:List Int} {ys:List Nat} {x:Int} {j k:Nat} (f:OkT kind xs ys) (h:FindR xs x j) (e:FindR xs x k):j=k:=by
 rcases Nat.lt_trichotomy j k with c | c | c
 ·exfalso
  have a:=h.gt (by have:=e.lt;omega)
  have b:=e.le;rcases Nat.lt_or_eq_of_le (show j+1<=k from c) with d | d
  ·have:=f.rise d e.lt;omega
  ·rw [<- d] at b;omega
 ·exact c
 ·exfalso
  have a:=e.gt (by have:=h.lt;omega)
  have b:=h.le;rcases Nat.lt_or_eq_of_le (show k+1<=j from c) with d | d
  ·have:=f.rise d h.lt;omega
  ·rw [<- d] at b;omega
theorem MR {kind:Int} {xs:List Int} {ys:List Nat} {x:Int} {V t:Nat} {E o:Int} (p:OkT kind xs ys) (h:AtO kind xs ys x V E) (c:AtO kind xs ys x t o):V=t/\E=o:=by
 have F:∀ {k E},FindO kind xs ys x k E->E≠0->E=51/\(x<xs.getD 0 0\/xs.getD (xs.length - 1) 0<x):=fun h j=>by
  cases h with
  | bad E h j=>exact absurd (MQ p h) j
  | out h n=>exact⟨rfl,n⟩
  | at_=>exact absurd rfl j
 have G:∀ {k},FindO kind xs ys x k 0->¬ (x<xs.getD 0 0\/xs.getD (xs.length - 1) 0<x):=fun {k} h=>by
  generalize s:(0:Int)=z at h
  cases h with
  | bad E h j=>exact absurd s.symm j
  | out h n=>cases s
  | at_ h a b=>omega
 cases h with
 | err k E h j=>
  obtain⟨rfl,n⟩:=F h j;cases c with
  | err g o c e=>obtain⟨rfl,_⟩:=F c e;exact⟨rfl,rfl⟩
  | node g _ c=>exact absurd n (G c)
  | piece g D i _ c=>exact absurd n (G c)
 | node k _ h m r=>
  cases c with
  | err g o c e=>exact absurd (F c e).2 (G h)
  | node g _ c d f=>obtain rfl:=jS p m d;exact⟨rfl,rfl⟩
  | piece g D i _ c d f q=>obtain rfl:=jS p m d;exact absurd r f
 | piece k D i _ h m r q=>
  cases c with
  | err g o c e=>exact absurd (F c e).2 (G h)
  | node g _ c d f=>obtain rfl:=jS p m d;exact absurd f r
  | piece g u v _ c d f l=>
   obtain rfl:=jS p m d;have w:D=u:=by have:=q.hD;have:=l.hD;omega
   have hi:i=v:=by have:=q.hi;have:=l.hi;omega
   subst w hi;exact⟨rfl,rfl⟩
theorem JP {base kind:Int} {f:List Int} {g:List Nat} {x:Int} {V c:Nat} {E a:Int} (ok:OkV base kind f g) (h:FacO base kind f g x V E) (e:FacO base kind f g x c a):V=c/\E=a:=by
 cases h with
 | bad E h j=>exact absurd (iH ok h) j
 | ok _ V E i=>
  cases e with
  | bad a e d=>exact absurd (iH ok e) d
  | ok _ c a b=>exact MR ok.table i b
noncomputable def facV (base kind:Int) (a:List Int) (b:List Nat) (x:Int):Nat:=(vD base kind a b x).choose
noncomputable def Fw (base kind:Int) (a:List Int) (b:List Nat) (x:Int):Int:=(vD base kind a b x).choose_spec.choose
theorem lU (base kind:Int) (a:List Int) (b:List Nat) (x:Int):FacO base kind a b x (facV base kind a b x) (Fw base kind a b x):=(vD base kind a b x).choose_spec.choose_spec
theorem MS {base kind:Int} {a:List Int} {b:List Nat} {x:Int} {V:Nat} {E:Int} (c:OkV base kind a b) (h:FacO base kind a b x V E):facV base kind a b x=V/\Fw base kind a b x=E:=JP c (lU _ _ _ _ _) h
theorem JQ {base kind:Int} {e:List Int} {d:List Nat} {x:Int} (ok:OkV base kind e d) (k:∀ i<d.length,d.getD i 0<18446744073709551616) (f:Fw base kind e d x=0):facV base kind e d x<18446744073709551616/\0<ae (facV base kind e d x:Nat)/\ah (facV base kind e d x:Nat)=false:=by
 have h:=lU base kind e d x;rw [f] at h
 generalize facV base kind e d x=V at h
 generalize g:(0:Int)=z at h
 cases h with
 | bad E h f=>exact absurd g.symm f
 | ok _ V E j=>subst g;obtain⟨a,b,c,_⟩:=Dq ok k j;exact⟨a,c,b⟩
theorem Fx {base kind:Int} {a:List Int} {b:List Nat} (c:OkV base kind a b) {i:Nat} (hi:i<a.length):facV base kind a b (a.getD i 0)=b.getD i 0/\Fw base kind a b (a.getD i 0)=0:=MS c (.ok c _ _ (JO c (i:=i+1) hi))
theorem Bz (u:Int):ae u<=szI u:=by
 have:0<=szI u:=by unfold szI;omega
 unfold ae;split
 ·omega
 ·split<;>omega
theorem yM {base kind:Int} {b:List Int} {a:List Nat} (c:OkV base kind b a):∀ i≤b.length,ae (prvF a i:Nat)<9218868437227405312
 | 0,_=>by
  show ae (4607182418800017408:Nat)<9218868437227405312
  decide
 | i+1,hi=>by
  have h:=(ch (c.node i (by omega))).2.2.1
  show ae (a.getD i 0:Nat)<9218868437227405312
  unfold aM at h
  rw [decide_eq_true_eq] at h
  have:=Bz (a.getD i 0:Nat);omega
theorem yN {u:Int} (hn:ah u=false) (a:0<ae u) (h:ae u<9218868437227405312):aM u=true:=by
 unfold aM;rw [decide_eq_true_eq];have c:0<=szI u:=by unfold szI;omega
 unfold ae at a h
 rw [hn] at a h
 simp only [Bool.false_eq_true,if_false] at a h
 split at a
 ·omega
 ·rename_i b;rw [if_neg b] at h;exact h
theorem MT {base kind a:Int} {c:List Int} {b:List Nat} {W:Nat} (e:OkV base kind c b) (g:∀ i<b.length,b.getD i 0<18446744073709551616) (h:AtO kind (ctX base c) (ctY b) a W 0):aM (W:Nat)=true:=by
 obtain⟨p,l,n,_⟩:=Dq e g h;obtain⟨k,_,_,m,r,o,f,d⟩:=yL h (Of g);rw [oK] at m f d
 rw [kN,kN] at f
 rw [kN] at d
 refine yN l n ?_
 have s:=yM e k (by omega)
 by_cases j:k+1<c.length+1
 ·have:=(f j).2;have q:=yM e (k+1) (by omega)
  omega
 ·have:=d j;omega
theorem JR {base kind:Int} {b:List Int} {a:List Nat} {x:Int} (ok:OkV base kind b a) (f:∀ i<a.length,a.getD i 0<18446744073709551616) (c:Fw base kind b a x=0):aM (facV base kind b a x:Nat)=true:=by
 have h:=lU base kind b a x;rw [c] at h
 generalize facV base kind b a x=V at h
 generalize d:(0:Int)=z at h
 cases h with
 | bad E h c=>exact absurd d.symm c
 | ok _ V E e=>subst d;exact MT ok f e
structure Cv where
 base:Int
 kind:Int
 ds:List Int
 fs:List Nat
noncomputable def Cv.V (c:Cv) (x:Int):Nat:=facV c.base c.kind c.ds c.fs x
noncomputable def Cv.E (c:Cv) (x:Int):Int:=Fw c.base c.kind c.ds c.fs x
def Cv.Ok (c:Cv):Prop:=OkV c.base c.kind c.ds c.fs
def Cv.Chk (c:Cv) (E:Int):Prop:=CurR c.base c.kind c.ds c.fs E
def Cv.Fit (c:Cv):Prop:=∀ i<c.fs.length,c.fs.getD i 0<18446744073709551616
theorem JY {base kind:Int} {g:List Int} {j:List Nat} {E i:Int} (h:CurR base kind g j E) (a:CurR base kind g j i):E=i:=by
 cases h with
 | ok h=>exact (iH h a).symm
 | base h=>cases a with
  | base _=>rfl
  | ok a=>have:=a.b0;have:=a.b1;omega
  | kind d b _=>omega
  | len d b _ _ _=>omega
  | node d b _ _ _ _ _ _ _ _ _=>omega
 | kind d b h=>cases a with
  | base _=>omega
  | ok a=>have:=a.k1;have:=a.k4;omega
  | kind _ _ _=>rfl
  | len _ _ f e _=>omega
  | node _ _ f e _ _ _ _ _ _ _=>omega
 | len d b f e h=>cases a with
  | base _=>omega
  | ok a=>have:=a.lo;have:=a.hi;have:=a.len;omega
  | kind _ _ _=>omega
  | len _ _ _ _ _=>rfl
  | node _ _ _ _ _ _ _ _ _ _ _=>rfl
 | node d b f e lo hi len K l c k=>cases a with
  | base _=>omega
  | ok a=>rw [a.node K l] at c;cases c
  | kind _ _ _=>omega
  | len _ _ _ _ _=>rfl
  | node _ _ _ _ _ _ _ _ _ _ _=>rfl
def tkB (cur base:Int) (f:Flw):Bool:=decide (f.cur=cur)&&decide (base<=f.day)
inductive VisR (l:List Flw) (cur:Int) (c:Cv):Int->Prop
 | flow (E K:Int) (h:ChkF l E K) (hE:E≠0):VisR l cur c E
 | cur (h:ChkF l 0 0) (hc:¬ (1<=cur/\cur<=8)):VisR l cur c 140
 | curve (h:ChkF l 0 0) (hc:1<=cur/\cur<=8) (E:Int) (hC:c.Chk E) (hE:E≠0):VisR l cur c E
 | fac (h:ChkF l 0 0) (hc:1<=cur/\cur<=8) (ok:c.Ok) (K:Nat) (hK:K<l.length) (tk:tkB cur c.base (l.getD K aD)=true) (E:Int) (he:c.E (l.getD K aD).day=E) (hE:E≠0) (fine:∀ i<K,tkB cur c.base (l.getD i aD)=true->c.E (l.getD i aD).day=0):VisR l cur c E
 | ok (h:ChkF l 0 0) (hc:1<=cur/\cur<=8) (ok:c.Ok) (fine:∀ i<l.length,tkB cur c.base (l.getD i aD)=true->c.E (l.getD i aD).day=0):VisR l cur c 0
theorem jT {l:List Flw} {K:Int} (h:ChkF l 0 K):K=0:=by
 generalize a:(0:Int)=z at h
 cases h with
 | many h=>cases a
 | fine=>rfl
 | bad c k d e f b h=>exact absurd a.symm b
theorem vis_from (l:List Flw) (cur:Int) (c:Cv):∀ n,(∀ i<n,tkB cur c.base (l.getD i aD)=true->c.E (l.getD i aD).day=0)\/∃ k<n,tkB cur c.base (l.getD k aD)=true/\c.E (l.getD k aD).day≠0/\∀ i<k,tkB cur c.base (l.getD i aD)=true->c.E (l.getD i aD).day=0
 | 0=>Or.inl (fun i hi=>by omega)
 | n+1=>by
  rcases vis_from l cur c n with h | ⟨k,g,a,b,h⟩
  ·by_cases d:tkB cur c.base (l.getD n aD)=true/\c.E (l.getD n aD).day≠0
   ·exact Or.inr ⟨n,by omega,d.1,d.2,h⟩
   ·refine Or.inl (fun i hi a=>?_)
    by_cases f:i<n
    ·exact h i f a
    ·obtain rfl:i=n:=by omega
     exact Classical.byContradiction fun e=>d ⟨a,e⟩
  ·exact Or.inr ⟨k,by omega,a,b,h⟩
theorem Ds (l:List Flw) (cur:Int) (c:Cv):∃ E,VisR l cur c E:=by
 obtain⟨e,k,h⟩:=vG l
 by_cases g:e=0
 ·subst g;obtain rfl:=jT h
  by_cases a:1<=cur/\cur<=8
  ·obtain⟨E,d⟩:=oJ c.base c.kind c.ds c.fs
   by_cases f:E=0
   ·subst f;rcases vis_from l cur c l.length with b | ⟨K,j,m,i,b⟩
    ·exact⟨0,.ok h a (jR d) b⟩
    ·exact⟨_,.fac h a (jR d) K j m _ rfl i b⟩
   ·exact⟨E,.curve h a E d f⟩
  ·exact⟨140,.cur h a⟩
 ·exact⟨e,.flow e k h g⟩
theorem bN {l:List Flw} {cur:Int} {c:Cv} {E g:Int} (h:VisR l cur c E) (e:VisR l cur c g):E=g:=by
 cases h with
 | flow E K h k=>cases e with
  | flow g o e a=>exact (aO h e).1
  | cur e _=>exact absurd (aO h e).1 k
  | curve e _ _ _ _=>exact absurd (aO h e).1 k
  | fac e _ _ _ _ _ _ _ _ _=>exact absurd (aO h e).1 k
  | ok e _ _ _=>exact absurd (aO h e).1 k
 | cur h m=>cases e with
  | flow g o e a=>exact absurd (aO e h).1 a
  | cur _ _=>rfl
  | curve _ b _ _ _=>exact absurd b m
  | fac _ b _ _ _ _ _ _ _ _=>exact absurd b m
  | ok _ b _ _=>exact absurd b m
 | curve h m E r k=>cases e with
  | flow g o e a=>exact absurd (aO e h).1 a
  | cur _ b=>exact absurd m b
  | curve _ _ g i _=>exact JY r i
  | fac _ _ ok _ _ _ _ _ _ _=>exact absurd (iH ok r) k
  | ok _ _ ok _=>exact absurd (iH ok r) k
 | fac h m ok K u t E s k j=>cases e with
  | flow g o e a=>exact absurd (aO e h).1 a
  | cur _ b=>exact absurd m b
  | curve _ _ g i a=>exact absurd (iH ok i) a
  | fac _ _ _ o q p g n a f=>
   rcases Nat.lt_trichotomy K o with d | d | d
   ·exact absurd (s.symm.trans (f K d t)) k
   ·subst d;exact s.symm.trans n
   ·exact absurd (n.symm.trans (j o d p)) a
  | ok _ _ _ f=>exact absurd (s.symm.trans (f K u t)) k
 | ok h m ok j=>cases e with
  | flow g o e a=>exact absurd (aO e h).1 a
  | cur _ b=>exact absurd m b
  | curve _ _ g i a=>exact absurd (iH ok i) a
  | fac _ _ _ o q p g n a f=>exact absurd (n.symm.trans (j o q p)) a
  | ok _ _ _ _=>rfl
structure FineP (l:List Flw) (cur:Int) (c:Cv):Prop where
 len:l.length<=4096
 bad:∀ f ∈ l,fL f=0
 cu:1<=cur/\cur<=8
 ok:c.Ok
 fac:∀ f ∈ l,tkB cur c.base f=true->c.E f.day=0
theorem tH {l:List Flw} {i:Nat} (h:i<l.length):l.getD i aD ∈ l:=by
 have:l.getD i aD=l[i]:=by simp [List.getD,List.getElem?_eq_getElem h]
 rw [this];exact List.getElem_mem h
theorem tI {l:List Flw} {f:Flw} (h:f ∈ l):∃ i,i<l.length/\l.getD i aD=f:=by
 obtain⟨i,hi,e⟩:=List.getElem_of_mem h;exact⟨i,hi,by simp [List.getD,List.getElem?_eq_getElem hi,e]⟩
theorem tJ {l:List Flw} {cur:Int} {c:Cv} (h:VisR l cur c 0):FineP l cur c:=by
 generalize a:(0:Int)=z at h
 cases h with
 | flow E K h b=>exact absurd a.symm b
 | cur=>cases a
 | curve h g E q b=>exact absurd a.symm b
 | fac h g ok K s r E o b fine=>exact absurd a.symm b
 | ok h g ok fine=>
  have hF:l.length<=4096/\∀ i<l.length,fL (l.getD i aD)=0:=by
   generalize a:(0:Int)=z at h
   cases h with
   | fine j h=>exact⟨j,h⟩
   | bad j k p e o m h=>exact absurd a.symm m
  refine⟨hF.1,fun f d=>?_,g,ok,fun f d n=>?_⟩
  ·obtain⟨i,hi,rfl⟩:=tI d;exact hF.2 i hi
  ·obtain⟨i,hi,rfl⟩:=tI d;exact fine i hi n
theorem tK {l:List Flw} {cur:Int} {c:Cv} (h:FineP l cur c):VisR l cur c 0:=
 .ok (.fine h.len (fun _ hi=>h.bad _ (tH hi))) h.cu h.ok (fun _ hi a=>h.fac _ (tH hi) a)
theorem jU {l:List Flw} {cur E:Int} {c:Cv} (h:VisR l cur c E):E=0↔FineP l cur c:=
 ⟨fun e=>tJ (e▸h),fun f=>bN h (tK f)⟩
noncomputable def prI (c:Cv) (f:Flw):Int:=(A.fF (f.am:Int) (c.V f.day:Int)).N
noncomputable def ctI (cur:Int) (c:Cv) (f:Flw):Int:=if tkB cur c.base f=true then prI c f else 0
noncomputable def wsI (cur:Int) (c:Cv):List Flw->Int
 | []=>0
 | f::l=>ctI cur c f+wsI cur c l
theorem qL (cur:Int) (c:Cv):∀ a b:List Flw,wsI cur c (a++b)=wsI cur c a+wsI cur c b
 | [],b=>by simp [wsI]
 | f::a,b=>by simp only [List.cons_append,wsI];rw [qL cur c a b,Int.add_assoc]
theorem BC {l:List Flw} {k:Nat} (a:k<l.length):l.take (k+1)=l.take k++[l.getD k aD]:=by
 have:l.getD k aD=l[k]:=by simp [List.getD,List.getElem?_eq_getElem a]
 rw [this,List.take_succ_eq_append_getElem a]
theorem qM {cur:Int} {c:Cv} {l:List Flw} {k:Nat} (a:k<l.length):wsI cur c (l.take (k+1))=wsI cur c (l.take k)+ctI cur c (l.getD k aD):=by
 rw [BC a,qL];simp [wsI]
def tldV (x:Nat):Nat:=if aM (x:Int)=true then x else 0
def gM (x:Nat):Int:=if aM (x:Int)=true then 0 else 91
theorem Pt {f:Flw} (h:fL f=0):aM (f.am:Int)=true:=by
 unfold fL at h
 split at h
 ·cases h
 ·split at h
  ·cases h
  ·rename_i _ b;cases a:aM (f.am:Int)
   ·exact absurd a b
   ·rfl
theorem Cv.num {c:Cv} {x:Int} (a:c.Ok) (b:c.Fit) (h:c.E x=0):c.V x<18446744073709551616/\0<ae (c.V x:Nat)/\ah (c.V x:Nat)=false:=JQ a b h
def awX:List Int:=[0,10,20]
def awY:List Nat:=[0,4621819117588971520,4630826316843712512]
structure AwB (w wr:World):Prop where
 t0:wr.cell? ⟨w.heap.size+1+1,0,none⟩=some (.int .i64 3)
 t1:wr.cell? ⟨w.heap.size+1+1,1,none⟩=some (.slice (some ⟨w.heap.size,0,none⟩) 3 3)
 t2:wr.cell? ⟨w.heap.size+1+1,2,none⟩=some (.slice (some ⟨w.heap.size+1,0,none⟩) 3 3)
 src:TFl wr (some ⟨w.heap.size,0,none⟩) (some ⟨w.heap.size+1,0,none⟩) w.heap.size 0 (w.heap.size+1) 0 awX awY
 bl:Below w.heap.size w wr
 lt:w.heap.size+1+1<wr.heap.size
theorem AwB.step {w wr b:World} (h:AwB w wr) (a:Below wr.heap.size wr b):AwB w b:=
 ⟨(a.cell (p:=⟨w.heap.size+1+1,0,none⟩) h.lt).trans h.t0,(a.cell (p:=⟨w.heap.size+1+1,1,none⟩) h.lt).trans h.t1,(a.cell (p:=⟨w.heap.size+1+1,2,none⟩) h.lt).trans h.t2,h.src.below a,h.bl.trans (a.mono h.bl.size),Nat.lt_of_lt_of_le h.lt a.size⟩
theorem Pw {w:World} {B B' b L:Nat} {v:Value} {a:A.St} (h:A.AccAt w B b v L a) (i:∀ k,A.Ft b v k->B'<=k):A.AccAt w B' b v L a:=by
 obtain⟨l,f,m,j⟩:=h.own;refine⟨h.blk,i b (Or.inl rfl),⟨l,⟨⟨f.own.1,?_⟩,f.fit⟩,m,j⟩,h.ne,h.ok⟩
 rcases f.own.2 with c | ⟨g,d,e,c,n,rest⟩
 ·exact .inl c
 ·exact .inr ⟨g,d,e,c,i g (Or.inr (by rw [c];rfl)),rest⟩
structure WAt (w:World) (g:Nat) (N:Int) (L:Nat):Prop where
 ex:∃ b v,w.heap[g]? =some (.cells #[.pointer (some ⟨b,0,none⟩)] 106)/\A.AccAt w 0 b v L ⟨0,N⟩
theorem WAt.below {w a:World} {g:Nat} {N:Int} {L:Nat} (h:WAt w g N L) (d:Below w.heap.size w a):WAt a g N L:=by
 obtain⟨b,v,c,e⟩:=h.ex;exact⟨b,v,(d.block g (Array.getElem?_eq_some_iff.1 c).1).trans c,e.below d⟩
theorem WAt.drewN {w:World} {g:Nat} {N:Int} {L:Nat} (h:WAt w g N L) (n:Nat):WAt (w.drewN n) g N L:=by
 obtain⟨b,v,c,a⟩:=h.ex;exact⟨b,v,c,a.drewN n⟩
theorem MZ {B:Nat} {w a:World} (h:Below B w a) (n:Nat):Below B w (a.drewN n):=⟨h.os,h.tape,h.output,h.size,h.block⟩
theorem WAt.lt {w:World} {g:Nat} {N:Int} {L:Nat} (h:WAt w g N L):g<w.heap.size:=by
 obtain⟨b,v,a,_⟩:=h.ex;exact (Array.getElem?_eq_some_iff.1 a).1
theorem WAt.at_ {w:World} {g:Nat} {N:Int} {L:Nat} (h:WAt w g N L):∃ b v,w.cell? ⟨g,0,none⟩=some (.pointer (some ⟨b,0,none⟩))/\A.AccAt w 0 b v L ⟨0,N⟩:=by
 obtain⟨b,v,c,a⟩:=h.ex;exact⟨b,v,by simp [World.cell?,c],a⟩
theorem Na {w:World} {b:Nat} {v:Value} {L:Nat} {N:Int} (h:A.AccAt w 0 b v L ⟨0,N⟩):WAt (w.alloc (.cells #[.pointer (some ⟨b,0,none⟩)] 106)) w.heap.size N L:=
 ⟨b,v,heap_alloc_new _ _,h.below ((Below.refl _ _).alloc (Nat.le_refl _) _)⟩
theorem FJ (N:Int):A.cO ⟨0,N⟩=valF N:=by unfold A.cO;exact if_pos rfl
theorem WAt.value {w:World} {b:Nat} {v:Value} {N:Int} {L:Nat} (h:A.AccAt w 0 b v L ⟨0,N⟩) (c:L<=40000):Calls Tryz.prog 59 #[.pointer (some ⟨b,0,none⟩)] w fun r a=>r=.returned (.float .f64 (valF N))/\Below w.heap.size w a:=by
 have:=A.Eu 0 b v L ⟨0,N⟩ w h (Nat.zero_le _) c;rw [FJ] at this
 exact this
end Go.Proofs.YtfdddijdjpijbaaGreat
