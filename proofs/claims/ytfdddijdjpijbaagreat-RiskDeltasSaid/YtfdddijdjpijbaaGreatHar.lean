/-  -/
import Derived.Test.YtfdddijdjpijbaaGreatHaq
import Derived.WalkKit
import Derived.LoopTactic
import Derived.BigCall
import Derived.BigQuiet
import Derived.Maps.AppendAt
import Derived.Laws.OwnMore
import Derived.Deep.OwnRows
import Derived.Test.YtfdddijdjpijbaaGreatHai
set_option maxHeartbeats 12800000
set_option maxRecDepth 10000
namespace Go.Proofs.YtfdddijdjpijbaaGreat
open Go.RowKit
theorem hideS {p:Prop} (h:p):Hid p:=h
theorem turned {P:Program} {f:Nat} {args:Array Value} {w:World} {Q:Ending->Prop} (h:Calls P f args w fun e c=>Q e/\c=w):Calls P f args w fun e c=>Q e/\w=c:=
 h.mono fun _ _ ⟨a,b⟩=>⟨a,b.symm⟩
theorem infoU:(Tryz.prog.info? 41).map (fun i=>(i.zero,i.size,i.bytes))=some (some (.int .u64 0),1,8):=by kernel_rfl
theorem own_below {w d:World} {B e size n:Nat} {v:Value} {xs:List Value} (h:w.ownsRow B e size v n xs) (f:Below w.heap.size w d):d.ownsRow B e size v n xs:=by
 refine⟨h.1,?_⟩
 rcases h.2 with i | ⟨g,b,c,rfl,j,a,rest⟩
 ·exact .inl i
 ·exact .inr ⟨g,b,c,rfl,j,by rw [f.block g (Array.getElem?_eq_some_iff.1 a).1];exact a,rest⟩
def uV (x:Nat):Value:=.int .u64 (x:Int)
def fV (x:Nat):Value:=.float .f64 x
theorem getD_some {l:List Nat} {i:Nat} (hi:i<l.length):l[i]? =some (l.getD i 0):=by simp [List.getD,List.getElem?_eq_getElem hi]
def rowOf (f:Nat->Value) (l:List Nat) (k:Nat):List Value:=(l.take k).map f
theorem take_next {f:Nat->Value} {l:List Nat} {k:Nat} (a:k<l.length):rowOf f l (k+1)=rowOf f l k++[f (l.getD k 0)]:=by
 unfold rowOf;rw [List.take_add_one,getD_some a,List.map_append];rfl
theorem rowOf_all (f:Nat->Value) (l:List Nat):rowOf f l l.length=l.map f:=by unfold rowOf;rw [List.take_length]
structure Src (w:World) (p:Option Addr) (b off:Nat) (xs:List Nat):Prop where
 at_:0<xs.length->p=some ⟨b,off,none⟩
 lt:0<xs.length->b<w.heap.size
 cell:∀ j,j<xs.length->w.cell? ⟨b,off+j,none⟩=some (.float .f64 (xs.getD j 0))
theorem Src.below {w a:World} {p:Option Addr} {b off:Nat} {xs:List Nat} (h:Src w p b off xs) (c:Below w.heap.size w a):Src a p b off xs:=
 ⟨h.at_,fun e=>Nat.lt_of_lt_of_le (h.lt e) c.size,fun j d=>(c.cell (p:=⟨b,off+j,none⟩) (h.lt (by omega))).trans (h.cell j d)⟩
structure OwnF (w:World) (B t:Nat) (f:Nat->Value) (v:Value) (xs:List Nat):Prop where
 own:w.ownsRow B t 1 v xs.length (xs.map f)
theorem OwnF.below {w a:World} {B t:Nat} {f:Nat->Value} {v:Value} {xs:List Nat} (h:OwnF w B t f v xs) (b:Below w.heap.size w a):OwnF a B t f v xs:=⟨own_below h.own b⟩
theorem OwnF.shape {w:World} {B t:Nat} {f:Nat->Value} {v:Value} {xs:List Nat} (h:OwnF w B t f v xs) :
  ∃ p g c,v=.slice p xs.length c/\(0<xs.length->p=some ⟨g,0,none⟩ /\B<=g/\g<w.heap.size)/\∀ j,j<xs.length->w.cell? ⟨g,j,none⟩=some (f (xs.getD j 0)):=by
 rcases h.own.2 with⟨a,i⟩| ⟨g,b,l,a,m,k,_⟩
 ·exact⟨none,0,0,by rw [a,i],fun n=>by omega,fun j d=>by omega⟩
 ·refine⟨some ⟨g,0,none⟩,g,b,a,fun _=>⟨rfl,m,(Array.getElem?_eq_some_iff.1 k).1⟩,fun j d=>?_⟩
  have e:=h.own;rw [a] at e
  rw [e.cellAt j (by omega),List.getElem?_map,getD_some d];rfl
def QA (f:Nat) (u z:Int):Prop:=∀ w,Calls Tryz.prog f #[.int .u64 u] w fun e a=>e=.returned (.int .u64 z)/\Below w.heap.size w a
def ltB (u v:Int):Bool:=!ah u&&!ah v&&decide (ae u<ae v)
def aE (u:Int):Bool:=decide (szI u<9218868437227405312)
theorem gF (u v:Int) (w:World) (h:U64 u) (d:U64 v) :
  Calls Tryz.prog 60 #[.int .u64 u,.int .u64 v] w fun e b=>e=.returned (.bool (ltB u v))/\b=w:=by
 have g:=hideS fun w=>gc u w h
 have f:=hideS fun w=>gc v w d
 unfold ltB;generalize ae u=a at *
 generalize ae v=c at *
 generalize ah u=m at *
 generalize ah v=n at *
 clear h d
 go_enter Tryz.func60,Tryz.ntmps60
 go_wp2_with fail
 refine (g.out _).mono ?_
 rintro e b ⟨rfl,rfl⟩
 go_wp2_with fail
 refine (f.out _).mono ?_
 rintro e b ⟨rfl,rfl⟩;cases m<;>cases n
 all_goals go_wp2_with fail
 all_goals go_ret
 all_goals exact⟨by simp,rfl⟩
theorem bK (u:Int) (w:World) (h:U64 u) :
  Calls Tryz.prog 41 #[.int .u64 u] w fun e a=>e=.returned (.bool (aE u))/\a=w:=by
 have b:=dK h;unfold aE
 go_enter Tryz.func41,Tryz.ntmps41
 go_wp2
 go_ret
 exact⟨rfl,rfl⟩
def eO (kind:Int) (xs:List Int) (ys:List Nat) (i:Nat):Bool:=
 decide (xs.getD i 0<0)||decide (109572<xs.getD i 0)||(decide (0<i)&&decide (xs.getD i 0<=xs.getD (i - 1) 0))||!aE (ys.getD i 0:Nat)||(decide (kind=4)&&!ltB 0 (ys.getD i 0:Nat))
structure OkT (kind:Int) (xs:List Int) (ys:List Nat):Prop where
 k1:1<=kind
 k4:kind<=4
 lo:1<=xs.length
 hi:xs.length<=256
 len:ys.length=xs.length
 node:∀ i<xs.length,eO kind xs ys i=false
inductive TabR (kind:Int) (xs:List Int) (ys:List Nat):Int->Prop
 | ok (h:OkT kind xs ys):TabR kind xs ys 0
 | kind (h:kind<1\/4<kind):TabR kind xs ys 90
 | len (h1:1<=kind) (h4:kind<=4) (h:xs.length<1\/256<xs.length\/ys.length≠xs.length):TabR kind xs ys 100
 | node (h1:1<=kind) (h4:kind<=4) (lo:1<=xs.length) (hi:xs.length<=256) (len:ys.length=xs.length) (K:Nat) (hK:K<xs.length) (bad:eO kind xs ys K=true) (fine:∀ i<K,eO kind xs ys i=false):TabR kind xs ys 100
theorem eZ {p:Nat->Bool}:∀ N,(∃ i<N,p i=true)->∃ k<N,p k=true/\∀ j<k,p j=false
 | 0,⟨i,hi,_⟩=>by omega
 | N+1,⟨i,hi,hp⟩=>by
  by_cases h:∃ i<N,p i=true
  ·obtain⟨k,g,f,d⟩:=eZ N h;exact⟨k,by omega,f,d⟩
  ·have b:i=N:=Classical.byContradiction fun c=>h ⟨i,by omega,hp⟩
   subst b;exact⟨i,by omega,hp,fun j a=>by
    cases e:p j
    ·rfl
    ·exact absurd ⟨j,a,e⟩ h⟩
theorem Mc (kind:Int) (xs:List Int) (ys:List Nat):∃ E,TabR kind xs ys E:=by
 by_cases e:kind<1\/4<kind
 ·exact⟨90,.kind e⟩
 ·by_cases d:xs.length<1\/256<xs.length\/ys.length≠xs.length
  ·exact⟨100,.len (by omega) (by omega) d⟩
  ·by_cases a:∃ i<xs.length,eO kind xs ys i=true
   ·obtain⟨K,b,g,f⟩:=eZ _ a;exact⟨100,.node (by omega) (by omega) (by omega) (by omega) (by omega) K b g f⟩
   ·exact⟨0,.ok ⟨by omega,by omega,by omega,by omega,by omega,fun i hi=>by
     cases c:eO kind xs ys i
     ·rfl
     ·exact absurd ⟨i,hi,c⟩ a⟩⟩
theorem ap {kind:Int} {xs:List Int} {ys:List Nat} {i:Nat} (h:eO kind xs ys i=false):0<=xs.getD i 0/\xs.getD i 0<=109572/\(0<i->xs.getD (i - 1) 0<xs.getD i 0)/\aE (ys.getD i 0:Nat)=true/\(kind=4->ltB 0 (ys.getD i 0:Nat)=true):=by
 unfold eO at h
 simp only [Bool.or_eq_false_iff,Bool.and_eq_false_iff,decide_eq_false_iff_not,Bool.not_eq_false'] at h
 obtain⟨⟨⟨⟨a,b⟩,c⟩,d⟩,e⟩:=h;refine⟨by omega,by omega,fun hi=>?_,d,fun f=>?_⟩
 ·rcases c with c | c<;>omega
 ·rcases e with e | e
  ·exact absurd f e
  ·exact e
theorem OkT.step {kind:Int} {xs:List Int} {ys:List Nat} (h:OkT kind xs ys) {i:Nat} (hi:i+1<xs.length):xs.getD i 0<xs.getD (i+1) 0:=by
 have:=(ap (h.node (i+1) hi)).2.2.1 (by omega)
 simpa using this
theorem OkT.rise {kind:Int} {xs:List Int} {ys:List Nat} (h:OkT kind xs ys) {i j:Nat} (c:i<j) (f:j<xs.length):xs.getD i 0<xs.getD j 0:=by
 obtain⟨d,rfl⟩:∃ d,j=i+1+d:=⟨j - i - 1,by omega⟩
 induction d with
 | zero=>exact h.step (by omega)
 | succ d e=>
  have a:=e (by omega) (by omega)
  have b:=h.step (i:=i+1+d) (by omega)
  exact Int.lt_trans a b
structure FindR (xs:List Int) (x:Int) (k:Nat):Prop where
 lt:k<xs.length
 le:xs.getD k 0<=x
 gt:k+1<xs.length->x<xs.getD (k+1) 0
theorem Md {xs:List Int} {x:Int} (h:0<xs.length) (f:xs.getD 0 0<=x):∃ k,FindR xs x k/\∀ j<k,j+1<xs.length/\xs.getD (j+1) 0<=x:=by
 by_cases d:∃ i<xs.length,decide (i+1<xs.length->x<xs.getD (i+1) 0)=true
 ·obtain⟨k,m,o,n⟩:=eZ (p:=fun i=>decide (i+1<xs.length->x<xs.getD (i+1) 0)) _ d
  have e:∀ j<k,j+1<xs.length/\xs.getD (j+1) 0<=x:=fun j g=>by
   have:=n j g;rw [decide_eq_false_iff_not] at this
   obtain⟨a,b⟩:=Classical.not_imp.1 this;exact⟨a,by omega⟩
  refine⟨k,⟨m,?_,of_decide_eq_true o⟩,e⟩
  by_cases l:k=0
  ·rw [l];exact f
  ·have:=(e (k - 1) (by omega)).2
   rwa [show k - 1+1=k by omega] at this
 ·exact absurd ⟨xs.length - 1,by omega,decide_eq_true (fun c=>by omega)⟩ d
structure VSrc (w:World) (p:Option Addr) (b off n:Nat) (f:Nat->Value):Prop where
 at_:0<n->p=some ⟨b,off,none⟩
 lt:0<n->b<w.heap.size
 cell:∀ j<n,w.cell? ⟨b,off+j,none⟩=some (f j)
theorem VSrc.below {w a:World} {p:Option Addr} {b off n:Nat} {f:Nat->Value} (h:VSrc w p b off n f) (c:Below w.heap.size w a):VSrc a p b off n f:=
 ⟨h.at_,fun e=>Nat.lt_of_lt_of_le (h.lt e) c.size,fun j d=>(c.cell (p:=⟨b,off+j,none⟩) (h.lt (by omega))).trans (h.cell j d)⟩
def xV (xs:List Int) (j:Nat):Value:=.int .i64 (xs.getD j 0)
def yV (ys:List Nat) (j:Nat):Value:=.int .u64 (ys.getD j 0:Nat)
def flV (ys:List Nat) (j:Nat):Value:=.float .f64 (ys.getD j 0)
structure TBox (w:World) (kind:Int) (vx vy:Value) (wr:World):Prop where
 t0:wr.cell? ⟨w.heap.size,0,none⟩=some (.int .i64 kind)
 t1:wr.cell? ⟨w.heap.size,1,none⟩=some vx
 t2:wr.cell? ⟨w.heap.size,2,none⟩=some vy
 bl:Below w.heap.size w wr
 lt:w.heap.size<wr.heap.size
theorem bU (w:World) (kind:Int) (b a:Value):TBox w kind b a (w.alloc (.cells #[.int .i64 kind,b,a] 156)):=
 ⟨by simp,by simp,by simp,(Below.refl _ _).alloc (Nat.le_refl _) _,by simp⟩
theorem TBox.step {w wr b:World} {kind:Int} {d c:Value} (h:TBox w kind d c wr) (a:Below wr.heap.size wr b):TBox w kind d c b:=
 ⟨(a.cell (p:=⟨w.heap.size,0,none⟩) h.lt).trans h.t0,(a.cell (p:=⟨w.heap.size,1,none⟩) h.lt).trans h.t1,(a.cell (p:=⟨w.heap.size,2,none⟩) h.lt).trans h.t2,h.bl.trans (a.mono h.bl.size),Nat.lt_of_lt_of_le h.lt a.size⟩
theorem oz (kind:Int) (b a:Option Addr) (n m cx cy:Nat) (w:World) (h:kind<1\/4<kind) :
  Calls Tryz.prog 167 #[.agg #[.int .i64 kind,.slice b n cx,.slice a m cy]] w fun e c=>e=.returned (.int .i64 90)/\Below w.heap.size w c:=by
 have d:=hideS (bU w kind (.slice b n cx) (.slice a m cy));rcases (show kind<1\/(1<=kind/\4<kind) by omega) with f | ⟨f,g⟩
 all_goals
  clear h
  go_enter Tryz.func167,Tryz.ntmps167
  go_wp2_with fail
  go_ret
  exact⟨rfl,d.out.bl⟩
theorem pu (kind:Int) (g f:Option Addr) (n m cx cy:Nat) (w:World) (l:1<=kind) (o:kind<=4) (h:n<1\/256<n\/m≠n) :
  Calls Tryz.prog 167 #[.agg #[.int .i64 kind,.slice g n cx,.slice f m cy]] w fun e j=>e=.returned (.int .i64 100)/\Below w.heap.size w j:=by
 have d:=hideS (bU w kind (.slice g n cx) (.slice f m cy));rcases (show n=0\/(1<=n/\256<n)\/(1<=n/\n<=256/\m≠n) by omega) with a | ⟨a,b⟩| ⟨a,b,c⟩
 ·subst a
  go_enter Tryz.func167,Tryz.ntmps167
  go_wp2_with fail
  go_ret
  exact⟨rfl,d.out.bl⟩
 ·have i:¬ (n:Int)<1:=by omega
  have k:(256:Int)<n:=by omega
  go_enter Tryz.func167,Tryz.ntmps167
  go_wp2_with fail
  go_ret
  exact⟨rfl,d.out.bl⟩
 ·have i:¬ (n:Int)<1:=by omega
  have k:¬ (256:Int)<n:=by omega
  have p:((n:Int) !=(m:Int))=true:=bne_iff_ne.2 (by omega)
  go_enter Tryz.func167,Tryz.ntmps167
  go_wp2_with fail
  go_ret
  exact⟨rfl,d.out.bl⟩
inductive NodeC (kind:Int) (i:Nat) (x px:Int) (fin pos:Bool):Bool->Prop
 | neg (h:x<0):NodeC kind i x px fin pos true
 | far (h0:0<=x) (h:109572<x):NodeC kind i x px fin pos true
 | back (h0:0<=x) (h1:x<=109572) (hi:0<i) (h:x<=px):NodeC kind i x px fin pos true
 | inf (h0:0<=x) (h1:x<=109572) (hi:i=0\/(0<i/\px<x)) (h:fin=false):NodeC kind i x px fin pos true
 | low (h0:0<=x) (h1:x<=109572) (hi:i=0\/(0<i/\px<x)) (h:fin=true) (hk:kind=4) (hp:pos=false):NodeC kind i x px fin pos true
 | fine (h0:0<=x) (h1:x<=109572) (hi:i=0\/(0<i/\px<x)) (h:fin=true) (hk:kind≠4\/(kind=4/\pos=true)):NodeC kind i x px fin pos false
theorem Hh (kind:Int) (xs:List Int) (ys:List Nat) (i:Nat):NodeC kind i (xs.getD i 0) (xs.getD (i - 1) 0) (aE (ys.getD i 0:Nat)) (ltB 0 (ys.getD i 0:Nat)) (eO kind xs ys i):=by
 obtain⟨R,d⟩:∃ R,eO kind xs ys i=R:=⟨_,rfl⟩;rw [d];unfold eO at d
 generalize xs.getD i 0=x at *
 generalize xs.getD (i - 1) 0=q at *
 generalize aE (ys.getD i 0:Nat)=f at *
 generalize ltB 0 (ys.getD i 0:Nat)=p at *
 by_cases a:x<0
 ·simp [a] at d
  subst d;exact .neg a
 ·by_cases b:109572<x
  ·simp [b] at d
   subst d;exact .far (by omega) b
  ·by_cases c:0<i/\x<=q
   ·simp [c] at d
    subst d;exact .back (by omega) (by omega) c.1 c.2
   ·have hi:i=0\/(0<i/\q<x):=by omega
    have e:(decide (0<i)&&decide (x<=q))=false:=by
     rw [Bool.and_eq_false_iff,decide_eq_false_iff_not,decide_eq_false_iff_not];omega
    rw [e,decide_eq_false a,decide_eq_false b] at d
    cases f
    ·simp at d
     subst d;exact .inf (by omega) (by omega) hi rfl
    ·by_cases k:kind=4
     ·cases p
      ·simp [k] at d
       subst d;exact .low (by omega) (by omega) hi rfl k rfl
      ·simp at d
       subst d;exact .fine (by omega) (by omega) hi rfl (Or.inr ⟨k,rfl⟩)
     ·simp [k] at d
      subst d;exact .fine (by omega) (by omega) hi rfl (Or.inl k)
def CY (kind:Int) (k:Nat) (x q:Int) (f p:Bool):Prop:=
 x<0\/(0<=x/\109572<x)\/(0<=x/\x<=109572/\0<k/\x<=q)\/(0<=x/\x<=109572/\¬ 0<k/\f=false)\/(0<=x/\x<=109572/\0<k/\¬ x<=q/\f=false)\/(0<=x/\x<=109572/\¬ 0<k/\f=true/\kind=4/\p=false)\/(0<=x/\x<=109572/\0<k/\¬ x<=q/\f=true/\kind=4/\p=false)
def wX (kind:Int) (k:Nat) (x q:Int) (f p:Bool):Prop:=
 0<=x/\x<=109572/\f=true/\((¬ 0<k/\(kind==4)=false)\/(0<k/\¬ x<=q/\(kind==4)=false)\/(¬ 0<k/\(kind==4)=true/\p=true)\/(0<k/\¬ x<=q/\(kind==4)=true/\p=true))
theorem Ek {kind:Int} {k:Nat} {x q:Int} {f p:Bool} (h:NodeC kind k x q f p true):CY kind k x q f p:=by
 unfold CY;generalize i:true=R at h
 cases h with
 | neg h=>exact Or.inl h
 | far c h=>exact Or.inr (Or.inl ⟨c,h⟩)
 | back c d hi h=>exact Or.inr (Or.inr (Or.inl ⟨c,d,hi,h⟩))
 | inf c d hi h=>
  rcases hi with a | ⟨a,b⟩
  ·exact Or.inr (Or.inr (Or.inr (Or.inl ⟨c,d,by omega,h⟩)))
  ·exact Or.inr (Or.inr (Or.inr (Or.inr (Or.inl ⟨c,d,a,by omega,h⟩))))
 | low c d hi h g e=>
  rcases hi with a | ⟨a,b⟩
  ·exact Or.inr (Or.inr (Or.inr (Or.inr (Or.inr (Or.inl ⟨c,d,by omega,h,g,e⟩)))))
  ·exact Or.inr (Or.inr (Or.inr (Or.inr (Or.inr (Or.inr ⟨c,d,a,by omega,h,g,e⟩)))))
 | fine=>cases i
theorem AF {kind:Int} {k:Nat} {x q:Int} {f p:Bool} (h:NodeC kind k x q f p false):wX kind k x q f p:=by
 unfold wX;generalize e:false=R at h
 cases h with
 | fine g j hi h i=>
  refine⟨g,j,h,?_⟩
  rcases hi with a | ⟨a,b⟩ <;>rcases i with c | ⟨c,d⟩
  ·exact Or.inl ⟨by omega,beq_false_of_ne c⟩
  ·exact Or.inr (Or.inr (Or.inl ⟨by omega,beq_iff_eq.2 c,d⟩))
  ·exact Or.inr (Or.inl ⟨a,by omega,beq_false_of_ne c⟩)
  ·exact Or.inr (Or.inr (Or.inr ⟨a,by omega,beq_iff_eq.2 c,d⟩))
 | neg=>cases e
 | far=>cases e
 | back=>cases e
 | inf=>cases e
 | low=>cases e
theorem iW (kind:Int) (px py:Option Addr) (bx ox cx b2 oy cy n K:Nat) (xs:List Int) (ys:List Nat) (w:World) (hX:VSrc w px bx ox n (xV xs)) (hY:VSrc w py b2 oy n (yV ys)) (hf:∀ i<n,U64 (ys.getD i 0:Nat)) (J:1<=kind) (N:kind<=4) (hn:1<=n) (al:n<=256) (hK:K<=n) (M:∀ i<K,eO kind xs ys i=false) (X:K<n->eO kind xs ys K=true) :
  Calls Tryz.prog 167 #[.agg #[.int .i64 kind,.slice px n cx,.slice py n cy]] w fun e w'=>e=.returned (.int .i64 (if K<n then 100 else 0))/\Below w.heap.size w w':=by
 obtain⟨w1,ad⟩:∃ w1,w.alloc (.cells #[.int .i64 kind,.slice px n cx,.slice py n cy] 156)=w1:=⟨_,rfl⟩;have l:Hid (TBox w kind (.slice px n cx) (.slice py n cy) w1):=by show TBox _ _ _ _ _;rw [<- ad];exact bU w kind (.slice px n cx) (.slice py n cy)
 have E:=hideS (hX.below l.out.bl);have G:=hideS (hY.below l.out.bl);have I:=hideS hf;have H:=hideS M;have r:=hideS X;have s:=hideS fun (u:Int) (Z:World) (hu:U64 u)=>bK u Z hu
 have v:=hideS fun (u:Int) (Z:World) (hu:U64 u)=>gF 0 u Z (by unfold U64;decide) hu
 obtain rfl:=hX.at_ (by omega)
 obtain rfl:=hY.at_ (by omega)
 have L:¬ (n:Int)<1:=by omega
 have O:¬ (256:Int)<n:=by omega
 obtain⟨R,hR⟩:∃ R:Int,(if K<n then 100 else 0)=R:=⟨_,rfl⟩
 rw [hR];have HR:=hideS hR;clear hR;have s0:=l.out.t0;have s1:=l.out.t1;have s2:=l.out.t2;clear hX hY hf M X
 go_enter Tryz.func167,Tryz.ntmps167
 go_wp2_with fail
 clear ad s0 s1 s2
 go_loopw [3] (fun i wr=>∃ k:Nat,k<=K/\i=.int .i64 k/\Hid (∃ q,wr=w1.drewN q)) (fun i _=>n - (intOf i).toNat)
 case atStart=>exact⟨0,Nat.zero_le _,rfl,⟨0,rfl⟩⟩
 case round=>
  obtain⟨k,hk,rfl,F⟩:=hrel;have t0:wr.cell? ⟨w.heap.size,0,none⟩=some (.int .i64 kind):=by obtain⟨q,e⟩:=F.out;rw [e];exact l.out.t0
  have t1:wr.cell? ⟨w.heap.size,1,none⟩=some (.slice (some ⟨bx,ox,none⟩) n cx):=by obtain⟨q,e⟩:=F.out;rw [e];exact l.out.t1
  have t2:wr.cell? ⟨w.heap.size,2,none⟩=some (.slice (some ⟨b2,oy,none⟩) n cy):=by obtain⟨q,e⟩:=F.out;rw [e];exact l.out.t2
  by_cases C:k<n
  ·have am:wr.cell? ⟨bx,ox+k,none⟩=some (.int .i64 (xs.getD k 0)):=by obtain⟨q,e⟩:=F.out;rw [e];exact E.out.cell k C
   have bb:wr.cell? ⟨b2,oy+k,none⟩=some (.int .u64 (ys.getD k 0:Nat)):=by obtain⟨q,e⟩:=F.out;rw [e];exact G.out.cell k C
   have d:0<k->wr.cell? ⟨bx,ox+(k - 1),none⟩=some (.int .i64 (xs.getD (k - 1) 0)):=fun h=>by obtain⟨q,e⟩:=F.out;rw [e];exact E.out.cell (k - 1) (by omega)
   have HC:=Hh kind xs ys k;have D:=hideS (I.out k C);have t:=hideS fun Z=>s.out _ Z D.out
   have z:=hideS fun Z=>v.out _ Z D.out
   by_cases ai:k<K
   ·rw [H.out k ai] at HC
    obtain⟨g0,g1,g2,Y⟩:=AF HC;rw [g2] at t
    clear HC g2;generalize xs.getD k 0=x at *
    generalize xs.getD (k - 1) 0=q at *
    generalize ab:((ys.getD k 0:Nat):Int)=y at *
    clear ab;generalize ltB 0 y=p at *
    rcases Y with⟨o,a2⟩| ⟨o,a2,a3⟩| ⟨o,a3,rfl⟩| ⟨o,a2,a3,rfl⟩
    ·have P:decide (x<0)=false:=decide_eq_false (by omega)
     have T:decide (109572<x)=false:=decide_eq_false (by omega)
     have W:decide (0<k)=false:=decide_eq_false o;have V:decide ((0:Int)<(k:Int))=false:=decide_eq_false (by omega)
     clear d;clear H r I E G l s v D L O J N hn g0 g1 o
     go_wp2_with fail
     go_quiet (first | (go_at_call 41;exact Calls.quiet_of_same (t.out _)) | (go_at_call 60;exact Calls.quiet_of_same (z.out _)))
     go_wp2_with fail
     go_roundw
     case rel=>exact⟨k+1,by omega,by simp,by obtain⟨q,e⟩:=F.out;exact⟨q+nq,by rw [e,World.drewN_drewN]⟩⟩
     case measure=>simp [intOf];omega
    ·have P:decide (x<0)=false:=decide_eq_false (by omega)
     have T:decide (109572<x)=false:=decide_eq_false (by omega)
     have W:decide (0<k)=true:=decide_eq_true o;have V:decide ((0:Int)<(k:Int))=true:=decide_eq_true (by omega)
     obtain⟨j,U⟩:∃ j,k=j+1:=⟨k - 1,by omega⟩
     have Q:(k:Int) - 1=(j:Int):=by omega
     have S:j<n:=by omega
     have g:=d o;rw [show k - 1=j by omega] at g
     clear d U;have d5:decide (x<=q)=false:=decide_eq_false a2;clear H r I E G l s v D L O J N hn g0 g1 o
     go_wp2_with fail
     go_quiet (first | (go_at_call 41;exact Calls.quiet_of_same (t.out _)) | (go_at_call 60;exact Calls.quiet_of_same (z.out _)))
     go_wp2_with fail
     go_roundw
     case rel=>exact⟨k+1,by omega,by simp,by obtain⟨q,e⟩:=F.out;exact⟨q+nq,by rw [e,World.drewN_drewN]⟩⟩
     case measure=>simp [intOf];omega
    ·have P:decide (x<0)=false:=decide_eq_false (by omega)
     have T:decide (109572<x)=false:=decide_eq_false (by omega)
     have W:decide (0<k)=false:=decide_eq_false o;have V:decide ((0:Int)<(k:Int))=false:=decide_eq_false (by omega)
     clear d;clear H r I E G l s v D L O J N hn g0 g1 o
     go_wp2_with fail
     go_quiet (first | (go_at_call 41;exact Calls.quiet_of_same (t.out _)) | (go_at_call 60;exact Calls.quiet_of_same (z.out _)))
     go_wp2_with fail
     go_roundw
     case rel=>exact⟨k+1,by omega,by simp,by obtain⟨q,e⟩:=F.out;exact⟨q+nq,by rw [e,World.drewN_drewN]⟩⟩
     case measure=>simp [intOf];omega
    ·have P:decide (x<0)=false:=decide_eq_false (by omega)
     have T:decide (109572<x)=false:=decide_eq_false (by omega)
     have W:decide (0<k)=true:=decide_eq_true o;have V:decide ((0:Int)<(k:Int))=true:=decide_eq_true (by omega)
     obtain⟨j,U⟩:∃ j,k=j+1:=⟨k - 1,by omega⟩
     have Q:(k:Int) - 1=(j:Int):=by omega
     have S:j<n:=by omega
     have g:=d o;rw [show k - 1=j by omega] at g
     clear d U;have d5:decide (x<=q)=false:=decide_eq_false a2;clear H r I E G l s v D L O J N hn g0 g1 o
     go_wp2_with fail
     go_quiet (first | (go_at_call 41;exact Calls.quiet_of_same (t.out _)) | (go_at_call 60;exact Calls.quiet_of_same (z.out _)))
     go_wp2_with fail
     go_roundw
     case rel=>exact⟨k+1,by omega,by simp,by obtain⟨q,e⟩:=F.out;exact⟨q+nq,by rw [e,World.drewN_drewN]⟩⟩
     case measure=>simp [intOf];omega
   ·obtain rfl:k=K:=by omega
    rw [r.out C] at HC
    have Y:=Ek HC;clear HC;have A:Hid ((100:Int)=R):=by show _=_;rw [<- HR.out,if_pos C]
    clear HR;generalize xs.getD k 0=x at *
    generalize xs.getD (k - 1) 0=q at *
    generalize ab:((ys.getD k 0:Nat):Int)=y at *
    clear ab;generalize ltB 0 y=p at *
    generalize aE y=f at *
    have B:Hid (∀ m,Below w.heap.size w (wr.drewN m)):=fun m=>by obtain⟨q,e⟩:=F.out;rw [e,World.drewN_drewN];exact⟨l.out.bl.os,l.out.bl.tape,l.out.bl.output,l.out.bl.size,l.out.bl.block⟩
    rcases Y with a | ⟨a,b⟩| ⟨a,b,o,c⟩| ⟨a,b,o,rfl⟩| ⟨a,b,o,c,rfl⟩| ⟨a,b,o,rfl,rfl,rfl⟩| ⟨a,b,o,c,rfl,rfl,rfl⟩
    ·have P:decide (x<0)=true:=decide_eq_true a;clear d;clear H r I E G l s v D L O J N hn
     go_wp2_with fail
     go_quiet (first | (go_at_call 41;exact Calls.quiet_of_same (t.out _)) | (go_at_call 60;exact Calls.quiet_of_same (z.out _)))
     go_wp2_with fail
     go_ret
     exact⟨by rw [<- A.out];rfl,B.out _⟩
    ·have P:decide (x<0)=false:=decide_eq_false (by omega)
     have T:decide (109572<x)=true:=decide_eq_true b;clear d;clear H r I E G l s v D L O J N hn
     go_wp2_with fail
     go_quiet (first | (go_at_call 41;exact Calls.quiet_of_same (t.out _)) | (go_at_call 60;exact Calls.quiet_of_same (z.out _)))
     go_wp2_with fail
     go_ret
     exact⟨by rw [<- A.out];rfl,B.out _⟩
    ·skip
     have P:decide (x<0)=false:=decide_eq_false (by omega)
     have T:decide (109572<x)=false:=decide_eq_false (by omega)
     have W:decide (0<k)=true:=decide_eq_true o;have V:decide ((0:Int)<(k:Int))=true:=decide_eq_true (by omega)
     obtain⟨j,U⟩:∃ j,k=j+1:=⟨k - 1,by omega⟩
     have Q:(k:Int) - 1=(j:Int):=by omega
     have S:j<n:=by omega
     have g:=d o;rw [show k - 1=j by omega] at g
     clear d U;have d5:decide (x<=q)=true:=decide_eq_true c;clear H r I E G l s v D L O J N hn
     go_wp2_with fail
     go_quiet (first | (go_at_call 41;exact Calls.quiet_of_same (t.out _)) | (go_at_call 60;exact Calls.quiet_of_same (z.out _)))
     go_wp2_with fail
     go_ret
     exact⟨by rw [<- A.out];rfl,B.out _⟩
    ·skip
     have P:decide (x<0)=false:=decide_eq_false (by omega)
     have T:decide (109572<x)=false:=decide_eq_false (by omega)
     have W:decide (0<k)=false:=decide_eq_false o;have V:decide ((0:Int)<(k:Int))=false:=decide_eq_false (by omega)
     clear d;clear H r I E G l s v D L O J N hn
     go_wp2_with fail
     go_quiet (first | (go_at_call 41;exact Calls.quiet_of_same (t.out _)) | (go_at_call 60;exact Calls.quiet_of_same (z.out _)))
     go_wp2_with fail
     go_ret
     exact⟨by rw [<- A.out];rfl,B.out _⟩
    ·skip
     have P:decide (x<0)=false:=decide_eq_false (by omega)
     have T:decide (109572<x)=false:=decide_eq_false (by omega)
     have W:decide (0<k)=true:=decide_eq_true o;have V:decide ((0:Int)<(k:Int))=true:=decide_eq_true (by omega)
     obtain⟨j,U⟩:∃ j,k=j+1:=⟨k - 1,by omega⟩
     have Q:(k:Int) - 1=(j:Int):=by omega
     have S:j<n:=by omega
     have g:=d o;rw [show k - 1=j by omega] at g
     clear d U;have d5:decide (x<=q)=false:=decide_eq_false c;clear H r I E G l s v D L O J N hn
     go_wp2_with fail
     go_quiet (first | (go_at_call 41;exact Calls.quiet_of_same (t.out _)) | (go_at_call 60;exact Calls.quiet_of_same (z.out _)))
     go_wp2_with fail
     go_ret
     exact⟨by rw [<- A.out];rfl,B.out _⟩
    ·skip
     have P:decide (x<0)=false:=decide_eq_false (by omega)
     have T:decide (109572<x)=false:=decide_eq_false (by omega)
     have W:decide (0<k)=false:=decide_eq_false o;have V:decide ((0:Int)<(k:Int))=false:=decide_eq_false (by omega)
     clear d;clear H r I E G l s v D L O J N hn
     go_wp2_with fail
     go_quiet (first | (go_at_call 41;exact Calls.quiet_of_same (t.out _)) | (go_at_call 60;exact Calls.quiet_of_same (z.out _)))
     go_wp2_with fail
     go_ret
     exact⟨by rw [<- A.out];rfl,B.out _⟩
    ·skip
     have P:decide (x<0)=false:=decide_eq_false (by omega)
     have T:decide (109572<x)=false:=decide_eq_false (by omega)
     have W:decide (0<k)=true:=decide_eq_true o;have V:decide ((0:Int)<(k:Int))=true:=decide_eq_true (by omega)
     obtain⟨j,U⟩:∃ j,k=j+1:=⟨k - 1,by omega⟩
     have Q:(k:Int) - 1=(j:Int):=by omega
     have S:j<n:=by omega
     have g:=d o;rw [show k - 1=j by omega] at g
     clear d U;have d5:decide (x<=q)=false:=decide_eq_false c;clear H r I E G l s v D L O J N hn
     go_wp2_with fail
     go_quiet (first | (go_at_call 41;exact Calls.quiet_of_same (t.out _)) | (go_at_call 60;exact Calls.quiet_of_same (z.out _)))
     go_wp2_with fail
     go_ret
     exact⟨by rw [<- A.out];rfl,B.out _⟩
  ·obtain rfl:k=K:=by omega
   have A:Hid ((0:Int)=R):=by show _=_;rw [<- HR.out,if_neg C]
   clear HR;have ba:¬ (k:Int)<n:=by omega
   have B:Hid (Below w.heap.size w wr):=by show Below _ _ _;obtain⟨q,e⟩:=F.out;rw [e];exact⟨l.out.bl.os,l.out.bl.tape,l.out.bl.output,l.out.bl.size,l.out.bl.block⟩
   go_wp2_with fail
   go_ret
   exact⟨by rw [<- A.out];rfl,B.out⟩
structure TSrc (w:World) (px py:Option Addr) (bx ox b2 oy:Nat) (xs:List Int) (ys:List Nat):Prop where
 x:VSrc w px bx ox xs.length (xV xs)
 y:VSrc w py b2 oy ys.length (yV ys)
 f:∀ i<ys.length,U64 (ys.getD i 0:Nat)
theorem TSrc.below {w b:World} {i a:Option Addr} {c j d e:Nat} {xs:List Int} {ys:List Nat} (h:TSrc w i a c j d e xs ys) (g:Below w.heap.size w b):TSrc b i a c j d e xs ys:=⟨h.x.below g,h.y.below g,h.f⟩
theorem dr (kind E:Int) (d a:Option Addr) (q p cx n k cy:Nat) (xs:List Int) (ys:List Nat) (w:World) (h:TabR kind xs ys E) (b:TSrc w d a q p n k xs ys) :
  Calls Tryz.prog 167 #[.agg #[.int .i64 kind,.slice d xs.length cx,.slice a ys.length cy]] w fun e s=>e=.returned (.int .i64 E)/\Below w.heap.size w s:=by
 cases h with
 | kind h=>exact oz kind d a _ _ cx cy w h
 | len m o h=>exact pu kind d a _ _ cx cy w m o (by omega)
 | node m o lo hi len K u r g=>
  have j:=b.y;rw [len] at j ⊢
  have:=iW kind d a q p cx n k cy xs.length K xs ys w b.x j (fun i l=>b.f i (by omega)) m o lo hi (by omega) g (fun _=>r)
  rw [if_pos u] at this
  exact this
 | ok h=>
  have j:=b.y;have t:=h.len;rw [t] at j ⊢
  have:=iW kind d a q p cx n k cy xs.length xs.length xs ys w b.x j (fun i l=>b.f i (by omega)) h.k1 h.k4 h.lo h.hi (Nat.le_refl _) h.node (fun c=>absurd c (Nat.lt_irrefl _))
  rw [if_neg (Nat.lt_irrefl _)] at this
  exact this
inductive FindO (kind:Int) (xs:List Int) (ys:List Nat) (x:Int):Int->Int->Prop
 | bad (E:Int) (h:TabR kind xs ys E) (hE:E≠0):FindO kind xs ys x 0 E
 | out (h:OkT kind xs ys) (hx:x<xs.getD 0 0\/xs.getD (xs.length - 1) 0<x):FindO kind xs ys x 0 51
 | at_ (h:OkT kind xs ys) (hlo:xs.getD 0 0<=x) (hhi:x<=xs.getD (xs.length - 1) 0) (k:Nat) (hk:FindR xs x k) (hj:∀ j<k,j+1<xs.length/\xs.getD (j+1) 0<=x):FindO kind xs ys x (k:Int) 0
theorem CZ {kind:Int} {xs:List Int} {ys:List Nat} (h:TabR kind xs ys 0):OkT kind xs ys:=by
 generalize a:(0:Int)=E at h
 cases h with
 | ok h=>exact h
 | kind h=>cases a
 | len c b h=>cases a
 | node=>cases a
theorem Hi (kind:Int) (xs:List Int) (ys:List Nat) (x:Int):∃ k E,FindO kind xs ys x k E:=by
 obtain⟨E,h⟩:=Mc kind xs ys
 by_cases b:E=0
 ·subst b;have a:=CZ h
  by_cases e:x<xs.getD 0 0\/xs.getD (xs.length - 1) 0<x
  ·exact⟨_,_,.out a e⟩
  ·obtain⟨k,d,c⟩:=Md (x:=x) a.lo (by omega)
   exact⟨_,_,.at_ a (by omega) (by omega) k d c⟩
 ·exact⟨_,_,.bad E h b⟩
theorem sd (kind x E:Int) (f b:Value) (w:World) (g:E≠0) (j:Hid (∀ a,Below w.heap.size w a->Calls Tryz.prog 167 #[.agg #[.int .i64 kind,f,b]] a fun e d=>e=.returned (.int .i64 E)/\Below a.heap.size a d)) :
  Calls Tryz.prog 145 #[.agg #[.int .i64 kind,f,b],.int .i64 x] w fun e d=>e=.returned (.tuple #[.int .i64 0,.int .i64 E])/\Below w.heap.size w d:=by
 have h:=hideS (bU w kind f b);have i:(E !=0)=true:=bne_iff_ne.2 g;clear g
 go_enter Tryz.func145,Tryz.ntmps145
 go_wp2_with (go_at_call 167;refine (j.out _ h.out.bl).mono ?_;rintro e k ⟨rfl,c⟩)
 go_ret2
 exact⟨rfl,(h.out.step c).bl⟩
theorem sf (kind x:Int) (j:Option Addr) (s q cx:Nat) (n:Nat) (xs:List Int) (l:Value) (w:World) (r:VSrc w j s q n (xV xs)) (hn:1<=n) (y:n<=256) (k:x<xs.getD 0 0\/xs.getD (n - 1) 0<x) (F:Hid (∀ d,Below w.heap.size w d->Calls Tryz.prog 167 #[.agg #[.int .i64 kind,.slice j n cx,l]] d fun e o=>e=.returned (.int .i64 0)/\Below d.heap.size d o)) :
  Calls Tryz.prog 145 #[.agg #[.int .i64 kind,.slice j n cx,l],.int .i64 x] w fun e o=>e=.returned (.tuple #[.int .i64 0,.int .i64 51])/\Below w.heap.size w o:=by
 have t:=hideS (bU w kind (.slice j n cx) l);have D:=hideS fun d (C:Below w.heap.size w d)=>r.below C
 obtain rfl:=r.at_ (by omega)
 obtain⟨m,A⟩:∃ m,n=m+1:=⟨n - 1,by omega⟩
 have i:n - 1=m:=by omega
 rw [i] at k
 have B:(n:Int) - 1=(m:Int):=by omega
 have p:m<n:=by omega
 have v:0<n:=by omega
 clear r A i hn
 go_enter Tryz.func145,Tryz.ntmps145
 go_wp2_with fail
 refine (F.out _ t.out.bl).mono ?_
 rintro e u ⟨rfl,g⟩;have c:=hideS (t.out.step g);have f:=hideS (D.out _ c.out.bl);clear g;obtain⟨J,G,L,_,_⟩:=c.out;have H:u.cell? ⟨s,q,none⟩=some (.int .i64 (xs.getD 0 0)):=f.out.cell 0 (by omega)
 have I:u.cell? ⟨s,q+m,none⟩=some (.int .i64 (xs.getD m 0)):=f.out.cell m p;generalize xs.getD 0 0=a at *
 generalize xs.getD m 0=b at *
 rcases (show x<a\/(a<=x/\b<x) by omega) with h | ⟨h,z⟩
 ·have E:decide (x<a)=true:=decide_eq_true h;clear k
  go_wp2_with fail
  go_ret2
  exact⟨rfl,c.out.bl⟩
 ·have E:decide (x<a)=false:=decide_eq_false (by omega)
  have K:decide (b<x)=true:=decide_eq_true z;clear k
  go_wp2_with fail
  go_ret2
  exact⟨rfl,c.out.bl⟩
theorem uO (kind x:Int) (s:Option Addr) (q p cx:Nat) (n K:Nat) (xs:List Int) (u:Value) (w:World) (A:VSrc w s q p n (xV xs)) (hn:1<=n) (I:n<=256) (P:xs.getD 0 0<=x) (C:x<=xs.getD (n - 1) 0) (hK:K<n) (l:K+1<n->x<xs.getD (K+1) 0) (c:∀ j<K,j+1<n/\xs.getD (j+1) 0<=x) (X:Hid (∀ g,Below w.heap.size w g->Calls Tryz.prog 167 #[.agg #[.int .i64 kind,.slice s n cx,u]] g fun e v=>e=.returned (.int .i64 0)/\Below g.heap.size g v)) :
  Calls Tryz.prog 145 #[.agg #[.int .i64 kind,.slice s n cx,u],.int .i64 x] w fun e v=>e=.returned (.tuple #[.int .i64 (K:Int),.int .i64 0])/\Below w.heap.size w v:=by
 have D:=hideS (bU w kind (.slice s n cx) u);have R:=hideS fun g (Q:Below w.heap.size w g)=>A.below Q
 have T:=hideS c;have W:=hideS l;obtain rfl:=A.at_ (by omega)
 obtain⟨m,L⟩:∃ m,n=m+1:=⟨n - 1,by omega⟩
 rw [show n - 1=m by omega] at C
 have M:(n:Int) - 1=(m:Int):=by omega
 have z:m<n:=by omega
 have G:0<n:=by omega
 clear A L hn c l
 go_enter Tryz.func145,Tryz.ntmps145
 go_wp2_with fail
 refine (X.out _ D.out.bl).mono ?_
 rintro e r ⟨rfl,h⟩;have d:=hideS (D.out.step h);have f:=hideS (R.out _ d.out.bl);clear h;obtain⟨Z,Y,t2,_,_⟩:=d.out;have J:r.cell? ⟨q,p,none⟩=some (.int .i64 (xs.getD 0 0)):=f.out.cell 0 (by omega)
 have N:r.cell? ⟨q,p+m,none⟩=some (.int .i64 (xs.getD m 0)):=f.out.cell m z;have U:decide (x<xs.getD 0 0)=false:=decide_eq_false (by omega)
 have S:decide (xs.getD m 0<x)=false:=decide_eq_false (by omega)
 clear P C;generalize xs.getD 0 0=a at *
 generalize xs.getD m 0=b at *
 go_wp2_with fail
 clear J N U S
 go_loop [7] (fun i=>∃ k:Nat,k<=K/\i=.int .i64 k) (fun i=>n - (intOf i).toNat)
 case atStart=>exact⟨0,Nat.zero_le _,rfl⟩
 case round=>
  obtain⟨k,hk,rfl⟩:=hrel;obtain⟨j,c⟩:∃ j,k+1=j:=⟨_,rfl⟩;have O:(k:Int)+1=(j:Int):=by omega
  by_cases t:k<K
  ·obtain⟨E,B⟩:=T.out k t;rw [c] at E B
   have c1:r.cell? ⟨q,p+j,none⟩=some (.int .i64 (xs.getD j 0)):=f.out.cell j E;have H:decide (xs.getD j 0<=x)=true:=decide_eq_true B;clear B;generalize xs.getD j 0=y at *
   have F:decide ((j:Int)<(n:Int))=true:=decide_eq_true (by omega)
   have o:=hideS c;clear c
   go_wp2_with fail
   go_round
   case rel=>exact⟨j,by have:=o.out;omega,rfl⟩
   case measure=>have:=o.out;simp [intOf];omega
  ·obtain rfl:k=K:=by omega
   by_cases V:j<n
   ·have c1:r.cell? ⟨q,p+j,none⟩=some (.int .i64 (xs.getD j 0)):=f.out.cell j V;have H:decide (xs.getD j 0<=x)=false:=decide_eq_false (by have:=W.out (by omega);rw [c] at this;omega)
    generalize xs.getD j 0=y at *
    have F:decide ((j:Int)<(n:Int))=true:=decide_eq_true (by omega)
    clear c
    go_wp2_with fail
    go_ret2
    exact⟨rfl,d.out.bl⟩
   ·have F:decide ((j:Int)<(n:Int))=false:=decide_eq_false (by omega)
    clear c
    go_wp2_with fail
    go_ret2
    exact⟨rfl,d.out.bl⟩
theorem cM (kind x k E:Int) (a d:Option Addr) (c b cx l j cy:Nat) (xs:List Int) (ys:List Nat) (w:World) (h:FindO kind xs ys x k E) (f:TSrc w a d c b l j xs ys) :
  Calls Tryz.prog 145 #[.agg #[.int .i64 kind,.slice a xs.length cx,.slice d ys.length cy],.int .i64 x] w fun e s=>e=.returned (.tuple #[.int .i64 k,.int .i64 E])/\Below w.heap.size w s:=by
 cases h with
 | bad E h r=>exact sd kind x E _ _ w r (fun g i=>dr kind E a d c b cx l j cy xs ys g h (f.below i))
 | out h q=>exact sf kind x a c b cx xs.length xs _ w f.x h.lo h.hi q (fun g i=>dr kind 0 a d c b cx l j cy xs ys g (.ok h) (f.below i))
 | at_ h m n k o p=>exact uO kind x a c b cx xs.length k xs _ w f.x h.lo h.hi m n o.lt o.gt p (fun g i=>dr kind 0 a d c b cx l j cy xs ys g (.ok h) (f.below i))
theorem eA:(Tryz.prog.info? 41).map (fun i=>(i.zero,i.size,i.bytes))=some (some (.int .u64 0),1,8):=by kernel_rfl
theorem xc (p:Option Addr) (c:Nat) (n:Int) (w:World) :
  Calls Tryz.prog 97 #[.slice p 0 c,.int .i64 n] w fun e a=>e=.returned (.slice none 0 0)/\a=w:=by
 go_enter Tryz.func97,Tryz.ntmps97
 go_wp2
 go_ret
 exact⟨rfl,rfl⟩
def Own (w:World) (b n M:Nat):Prop:=w.rowIs b 41 n (fun i=>.int .u64 (dgt M i:Int))
theorem Own.row {w:World} {b n M:Nat} (h:Own w b n M):RowIs w b n M:=fun _ hi=>h.cell hi
theorem pC (w:World) (n:Nat):Own (w.alloc (.cells (madeCells #[.int .u64 0] n) 41)) w.heap.size n 0:=
 (World.rowIs_made w (.int .u64 0) n 41).congr (fun i _=>by rw [wY];rfl)
theorem AI {w:World} {b L N q r k n D X:Nat} (h:Own w b L ((N % 2^(32*k))*2^n)) (hn:n=32*q+r) (p:r<32) (g:D=dgt N k) (d:X=D*2^r) (_hL:k+q+1<L) :
  Own ((w.setCell ⟨b,k+q,none⟩ (.int .u64 ((dgt ((N % 2^(32*k))*2^n) (k+q):Int)+(X:Int) % 4294967296))).setCell ⟨b,k+q+1,none⟩ (.int .u64 ((X:Int) / 4294967296))) b L ((N % 2^(32*(k+1)))*2^n):=by
 have m:=(h.set (k+q) (.int .u64 ((dgt ((N % 2^(32*k))*2^n) (k+q):Int)+(X:Int) % 4294967296))).set (k+q+1) (.int .u64 ((X:Int) / 4294967296));refine m.congr fun j _=>?_
 have i:N % 2^(32*k)*2^n<2^r*2^(32*(k+q)):=by
  have f:N % 2^(32*k)<2^(32*k):=Nat.mod_lt _ (Nat.two_pow_pos _);have e:2^r*2^(32*(k+q))=2^(32*k)*2^n:=by rw [<- Nat.pow_add,<- Nat.pow_add];congr 1;omega
  rw [e];exact Nat.mul_lt_mul_of_pos_right f (Nat.two_pow_pos _)
 have c:X<2^63:=by
  have f:=bB N k;have l:(2:Nat)^r<=2^31:=Nat.pow_le_pow_right (by decide) (by omega)
  rw [d,g]
  calc dgt N k*2^r<=dgt N k*2^31:=Nat.mul_le_mul_left _ l
   _<2^63:=by omega
 have o:N % 2^(32*(k+1))*2^n=N % 2^(32*k)*2^n+X*2^(32*(k+q)):=by
  rw [fG,Nat.add_mul,d,g]
  congr 1
  rw [Nat.mul_assoc,Nat.mul_assoc,<- Nat.pow_add,<- Nat.pow_add];congr 2;omega
 have a:=OU (j:=j) i c (by rw [d,Nat.mul_mod_left]) (by omega)
 rw [<- o] at a
 rw [a]
 by_cases c1:j=k+q+1
 ·rw [if_pos c1,if_neg (by omega),if_neg (by omega),if_pos c1];congr 1
 ·rw [if_neg c1]
  by_cases c2:j=k+q
  ·rw [if_pos c2,if_neg (by omega),if_pos c2];congr 1
  ·rw [if_neg c2]
   by_cases c3:j<k+q
   ·rw [if_pos c3]
   ·rw [if_neg c3,if_neg c2,if_neg c1];rw [mI];refine Nat.lt_of_lt_of_le i ?_
    rw [<- Nat.pow_add];exact Nat.pow_le_pow_right (by decide) (by omega)
theorem xd (g c N m n q r:Nat) (w:World) (hm:1<=m) (Q:m<=10000000) (hn:n<=100000000) (hq:(n:Int) / 32=q) (hr:(n:Int) % 32=r) (f:Hid (RowIs w g m N)) (R:g<w.heap.size) (H:Hid (N<2^(32*m))) :
  Calls Tryz.prog 97 #[.slice (some ⟨g,0,none⟩) m c,.int .i64 n] w fun e y=>∃ v,e=.returned v/\DN y v (N*2^n)/\From w.heap.size v/\Below w.heap.size w y:=by
 have Y:q<=3125000:=by omega
 have z:r<32:=by omega
 have G:Hid (n=32*q+r):=by show _=_;omega
 have h:=fun w=>run_make_row' (P:=Tryz.prog) 33 41 (.int .u64 0) 8 Tryz.underlying33 eA rfl .i64 .i64 (m+q+1) (by omega) (by omega) w
 have J:((m+q+1:Nat):Int)=(m:Int)+(q:Int)+1:=by omega
 rw [J] at h
 clear J;have K:=aa (pC w (m+q+1))
 go_enter Tryz.func97,Tryz.ntmps97
 go_wp2
 go_loopw [6] (fun i wr=>∃ k:Nat,k<=m/\i=.int .i64 k/\Hid (Own wr w.heap.size (m+q+1) ((N % 2^(32*k))*2^n))/\Hid (Below w.heap.size w wr)) (fun i _=>m - (intOf i).toNat)
 case atStart=>exact⟨0,Nat.zero_le _,rfl,by rw [Nat.mul_zero,Nat.pow_zero,Nat.mod_one,Nat.zero_mul];exact K,(Below.refl _ _).alloc (Nat.le_refl _) _⟩
 case round=>
  clear K h;obtain⟨k,hk,rfl,a,x⟩:=hrel
  by_cases t:k<m
  ·have V:wr.cell? ⟨g,k,none⟩=some (.int .u64 (dgt N k:Int)):=(x.out.cell (p:=⟨g,k,none⟩) R).trans (f.out k t);have j:=a.out.cell (i:=k+q) (by omega)
   have L:=a.out.cell (i:=k+q+1) (by omega)
   have Z:=a.out.frozen (k+q);have f2:=a.out.frozen (k+q+1);have U:=bB ((N % 2^(32*k))*2^n) (k+q);have M:=bB N k;have o:=fun D X (l:D=dgt N k) (C:X=D*2^r)=>AI a.out G.out z l C (by omega)
   have o:=aa o;generalize W:dgt ((N % 2^(32*k))*2^n) (k+q)=A at j U o
   generalize O:dgt ((N % 2^(32*k))*2^n) (k+q+1)=E at L
   generalize l:dgt N k=D at V M
   have B:=aa l;clear W O l;have C:IntKind.u64.wrap ((D:Int)*2^r)=((D*2^r:Nat):Int):=by
    have S:((D:Int)*2^r)=((D*2^r:Nat):Int):=by rw [Int.natCast_mul,Int.natCast_pow];rfl
    have u:(2:Nat)^r<=2^31:=Nat.pow_le_pow_right (by decide) (by omega)
    have T:D*2^r<=D*2^31:=Nat.mul_le_mul_left _ u;rw [S,IntKind.wrap_u64];omega
   have F:D*2^r<9223372036854775808:=by
    have u:(2:Nat)^r<=2^31:=Nat.pow_le_pow_right (by decide) (by omega)
    have T:D*2^r<=D*2^31:=Nat.mul_le_mul_left _ u;omega
   generalize d:D*2^r=X at C F
   have s:=aa d;clear d;go_wp2
   go_roundw
   case rel=>exact⟨k+1,by omega,by go_num,o.out D X B.out.symm s.out.symm,(x.out.setCell (Nat.le_refl _) _).setCell (Nat.le_refl _) _⟩
   case measure=>simp [intOf];omega
  ·obtain rfl:k=m:=by omega
   have e:N % 2^(32*k)=N:=Nat.mod_eq_of_lt H.out;rw [e] at a
   have I:Hid (N*2^n<2^(32*(k+q+1))):=by
    show _<_
    have j:N*2^n<2^(32*k)*2^n:=Nat.mul_lt_mul_of_pos_right H.out (Nat.two_pow_pos _);rw [<- Nat.pow_add] at j
    refine Nat.lt_of_lt_of_le j (Nat.pow_le_pow_right (by decide) ?_)
    have:=G.out;omega
   have b:=a.out.lt;have B:=aa (nH a.out.row I.out (Nat.le_refl _) b);clear e
   go_wp2_with fail
   refine (du _ _ _ _ _ a.out.row I.out (Nat.le_refl _) (by omega)).mono ?_
   rintro e y ⟨rfl,rfl⟩
   go_wp2_with fail
   go_ret
   exact⟨_,rfl,B.out,ij _ _ _ _ (Nat.le_refl _),x.out⟩
theorem jf (v:Value) (N n:Nat) (w:World) (h:DN w v N) (d:nd N<=10000000) (hn:n<=100000000) :
  Calls Tryz.prog 97 #[v,.int .i64 n] w fun e b=>∃ v,e=.returned v/\DN b v (N*2^n)/\From w.heap.size v/\Below w.heap.size w b:=by
 rcases h with⟨a,p,c,rfl⟩| ⟨a,g,c,rfl,j,i,f⟩
 ·refine (xc p c n w).mono ?_
  rintro e b ⟨rfl,rfl⟩;exact⟨_,rfl,Or.inl ⟨by rw [a,Nat.zero_mul],none,0,rfl⟩,gI _,Below.refl _ _⟩
 ·exact xd g c N (nd N) n (n / 32) (n % 32) w (dt a) d hn (by omega) (by omega) f i (dh N)
theorem nI (v:Value) (N n:Nat) (w:World) (h:DN w v N) (f:nd N<=10000000) (hn:n<=100000000) :
  Calls Tryz.prog 97 #[v,.int .i64 n] w fun e c=>∃ v,e=.returned v/\DN c v (N*2^n)/\Below w.heap.size w c:=
 (jf v N n w h f hn).mono fun _ _ ⟨v,a,b,_,d⟩=>⟨v,a,b,d⟩
def ir (x y:Nat) (w:World):Nat:=(Question.nanBits .f64 x y).cut (w.tape w.drawn (.nanBits .f64 x y))
theorem iu (x y:Nat) (w:World):ah (ir x y w)=true/\ir x y w<18446744073709551616:=by
 unfold ir;generalize w.tape w.drawn (.nanBits .f64 x y)=t
 show ah (((t % 2)*2^63+0x7ff0000000000000+1+(t / 2) % (2^52 - 1):Nat):Int)=true/\((t % 2)*2^63+0x7ff0000000000000+1+(t / 2) % (2^52 - 1):Nat)<_
 have d:t % 2<2:=Nat.mod_lt _ (by decide)
 have c:(t / 2) % (2^52 - 1)<2^52 - 1:=Nat.mod_lt _ (by decide)
 generalize t % 2=a at *
 generalize (t / 2) % (2^52 - 1)=b at *
 unfold ah szI;refine⟨?_,by omega⟩
 rw [decide_eq_true_eq];omega
theorem eu {P:Program} (op:BinOp) (a:op=.add\/op=.sub\/op=.mul\/op=.quo) (t:TypeId) (x y:Nat) (h:floatBits op .f64 x y=none) (w:World):(binOp op t (.float .f64 x) (.float .f64 y)).run P w=.ok (.float .f64 (ir x y w)) w.drew:=by
 rcases a with rfl | rfl | rfl | rfl<;>unfold floatBits at h<;>simp only at h<;>simp [binOp,Op.floatArith,h,Question.forced,ir]
theorem eD {op:BinOp} {x y:Nat} (h:ah x=true):floatBits op .f64 x y=none:=by
 obtain⟨f,e⟩:=lf (lg h);unfold floatBits;cases op<;>dsimp only<;>first | rfl | skip
 ·show ((Ieee.double.read x).sum (Ieee.double.read y)).map Ieee.double.write=_;rw [e];rfl
 ·show ((Ieee.double.read x).sum (Ieee.double.read y).opposite).map Ieee.double.write=_;rw [e];rfl
 ·show ((Ieee.double.read x).product (Ieee.double.read y)).map Ieee.double.write=_;rw [e];rfl
 ·show ((Ieee.double.read x).quotient 54 (Ieee.double.read y)).map Ieee.double.write=_;rw [e];rfl
theorem fu {op:BinOp} {x y:Nat} (h:ah y=true):floatBits op .f64 x y=none:=by
 obtain⟨f,e⟩:=lf (lg h);unfold floatBits;cases op<;>dsimp only<;>first | rfl | skip
 ·show ((Ieee.double.read x).sum (Ieee.double.read y)).map Ieee.double.write=_;rw [e];cases Ieee.double.read x<;>rfl
 ·show ((Ieee.double.read x).sum (Ieee.double.read y).opposite).map Ieee.double.write=_;rw [e];cases Ieee.double.read x<;>rfl
 ·show ((Ieee.double.read x).product (Ieee.double.read y)).map Ieee.double.write=_;rw [e];cases Ieee.double.read x<;>rfl
 ·show ((Ieee.double.read x).quotient 54 (Ieee.double.read y)).map Ieee.double.write=_;rw [e];cases Ieee.double.read x<;>rfl
def Ag (o:Option Nat) (b:Nat):Prop:=match o with | some r=>b=r | none=>ah b=true/\b<18446744073709551616
theorem cz {r b:Nat} (h:Ag (some r) b):b=r:=h
theorem eV {b:Nat} (h:Ag none b):ah b=true/\b<18446744073709551616:=h
def gj (x:Nat) (p:Option Nat) (c:Nat):Option Nat:=(p.bind fun p=>floatBits .mul .f64 p x).bind fun q=>floatBits .add .f64 q c
def hornAt (cs:List Nat) (x:Nat):Nat->Option Nat
 | 0=>some (cs.getD (cs.length - 1) 0)
 | i+1=>gj x (hornAt cs x i) (cs.getD (cs.length - 2 - i) 0)
def bj (cs:List Nat) (x:Nat):Option Nat:=if cs.length=0 then some 0 else hornAt cs x (cs.length - 1)
theorem MF {o:Option Nat} {a:Nat} (h:Ag o a) (op:BinOp) (x:Nat):(o.bind fun p=>floatBits op .f64 p x)=floatBits op .f64 a x:=by
 cases o with
 | some r=>rw [cz h];rfl
 | none=>rw [eD (eV h).1];rfl
theorem Iy {o:Option Nat} {a:Nat} (h:Ag o a) (x y:Nat):gj x o y=(floatBits .mul .f64 a x).bind fun q=>floatBits .add .f64 q y:=by
 unfold gj;rw [MF h]
theorem pS {w wr:World} (h:∃ q,wr=w.drewN q):∃ q,wr.drew=w.drewN q:=by
 obtain⟨q,e⟩:=h;exact⟨q+1,by rw [e];rfl⟩
theorem pT (p:Option Addr) (g off c x n:Nat) (cs:List Nat) (w:World) (t:Src w p g off cs) (f:cs.length=n) (hn:n<=1000000) :
  Calls Tryz.prog 83 #[.slice p n c,.float .f64 x] w fun e N=>∃ r,e=.returned (.float .f64 r)/\Ag (bj cs x) r/\∃ q,N=w.drewN q:=by
 have J:=hideS t;have H:=hideS f
 by_cases I:n=0
 ·subst I;have E:Hid (bj cs x=some 0):=by show _=_;unfold bj;rw [if_pos f]
  clear t f J H
  go_enter Tryz.func83,Tryz.ntmps83
  go_wp2
  go_ret
  exact⟨_,rfl,by rw [E.out];rfl,0,rfl⟩
 obtain⟨m,rfl⟩:∃ m,n=m+1:=⟨n - 1,by omega⟩
 obtain rfl:=t.at_ (by omega)
 have D:=t.cell m (by omega)
 have E:Hid (bj cs x=hornAt cs x m):=by show _=_;unfold bj;rw [if_neg (by omega),f];rfl
 have h:Hid (hornAt cs x 0=some (cs.getD m 0)):=by show _=_;unfold hornAt;rw [f];rfl
 have A:Hid (∀ i,hornAt cs x (i+1)=gj x (hornAt cs x i) (cs.getD (m - 1 - i) 0)):=fun i=>by
  show gj x (hornAt cs x i) (cs.getD (cs.length - 2 - i) 0)=_
  rw [f];rfl
 generalize cs.getD m 0=L at D h
 clear t f I
 go_enter Tryz.func83,Tryz.ntmps83
 go_wp2_with fail
 go_loopw [6,19] (fun s i wr=>∃ k a:Nat,k<=m/\i=.int .i64 k/\s=.float .f64 a/\Hid (Ag (hornAt cs x k) a)/\Hid (∃ q,wr=w.drewN q)) (fun _ i _=>m - (intOf i).toNat)
 case atStart=>exact⟨0,L,Nat.zero_le _,rfl,rfl,by rw [h.out];rfl,⟨0,rfl⟩⟩
 case round=>
  obtain⟨k,a,Q,rfl,rfl,B,u⟩:=hrel
  by_cases K:k<m
  ·have o:wr.cell? ⟨g,off+(m - 1 - k),none⟩=some (.float .f64 (cs.getD (m - 1 - k) 0)):=by
    obtain⟨q,e⟩:=u.out;rw [e];exact J.out.cell (m - 1 - k) (by rw [H.out];omega)
   have b:=hideS (A.out k);obtain⟨j,F⟩:∃ j:Nat,m - 1 - k=j:=⟨_,rfl⟩;have M:(m:Int) - 1 - k=j:=by omega
   rw [F] at o b
   clear F;generalize cs.getD j 0=y at o b
   rw [Iy B.out] at b
   clear B A h;cases d:floatBits .mul .f64 a x with
   | some q=>
    have O:=fun w=>run_float_arith (P:=Tryz.prog) w .mul 27 .f64 a x q d
    cases l:floatBits .add .f64 q y with
    | some r=>
     have G:=fun w=>run_float_arith (P:=Tryz.prog) w .add 27 .f64 q y r l
     have v:Hid (Ag (hornAt cs x (k+1)) r):=by rw [b.out,d];show Ag (floatBits .add .f64 q y) r;rw [l];rfl
     clear d l b;go_wp2
     go_roundw
     case rel=>exact⟨k+1,r,by omega,by simp,rfl,v,u⟩
     case measure=>simp [intOf];omega
    | none=>
     have G:=eu (P:=Tryz.prog) .add (by simp) 27 q y l
     have v:Hid (∀ z,Ag (hornAt cs x (k+1)) (ir q y z)):=fun z=>by rw [b.out,d];show Ag (floatBits .add .f64 q y) _;rw [l];exact iu q y z
     clear d l b;go_wp2
     go_roundw
     case rel=>exact⟨k+1,_,by omega,by simp,rfl,v.out _,pS u.out⟩
     case measure=>simp [intOf];omega
   | none=>
    have O:=eu (P:=Tryz.prog) .mul (by simp) 27 a x d
    have G:=fun z=>eu (P:=Tryz.prog) .add (by simp) 27 (ir a x z) y (eD (iu a x z).1)
    have v:Hid (∀ z C,Ag (hornAt cs x (k+1)) (ir (ir a x z) y C)):=fun z C=>by rw [b.out,d];exact iu _ y C
    clear d b;go_wp2
    go_roundw
    case rel=>exact⟨k+1,_,by omega,by simp,rfl,v.out _ _,pS (pS u.out)⟩
    case measure=>simp [intOf];omega
  ·obtain rfl:k=m:=by omega
   go_wp2
   go_ret
   exact⟨_,rfl,by rw [E.out];exact B.out,u.out⟩
theorem AX {s:Bool} {r:Nat} (h:r<=9218868437227405312):wrd s r<18446744073709551616:=by unfold wrd;split<;>omega
theorem write_lt (d:Ieee.Datum) (h:∀ s f,d≠.nan s f):Ieee.double.write d<18446744073709551616:=by
 cases d with
 | nan s f=>exact absurd rfl (h s f)
 | infinity s=>rw [show Ieee.double.write (.infinity s)=wrd s 9218868437227405312 by cases s<;>decide+kernel];exact AX (Nat.le_refl _)
 | number s m i=>
  show Ieee.double.nearest s m i<_
  by_cases a:m=0
  ·rw [a,cG,io];exact AX (Nat.zero_le _)
  ·rw [bV s a,io];exact AX (Nat.min_le_right _ _)
theorem IC {a b d:Ieee.Datum} (h:a.sum b=some d):∀ s f,d≠.nan s f:=by
 intro s f e;subst e;cases a<;>cases b<;>simp [Ieee.Datum.sum] at h
theorem AY {a b d:Ieee.Datum} (h:a.product b=some d):∀ s f,d≠.nan s f:=by
 intro s f e;subst e;cases a<;>cases b<;>simp [Ieee.Datum.product] at h
theorem xy {a b d:Ieee.Datum} {k:Nat} (h:a.quotient k b=some d):∀ s f,d≠.nan s f:=by
 intro s f e;subst e;cases a<;>cases b<;>simp [Ieee.Datum.quotient] at h
 split at h
 ·split at h<;>cases h
 ·cases h
theorem vm {o:Option Ieee.Datum} {r:Nat} (a:∀ d,o=some d->∀ s f,d≠.nan s f) (h:o.map Ieee.double.write=some r):r<18446744073709551616:=by
 cases o with
 | none=>cases h
 | some d=>
  have:Ieee.double.write d=r:=Option.some.inj h;rw [<- this];exact write_lt d (a d rfl)
theorem cR {op:BinOp} (b:op=.add\/op=.sub\/op=.mul\/op=.quo) {x y r:Nat} (h:floatBits op .f64 x y=some r):r<18446744073709551616:=by
 rcases b with rfl | rfl | rfl | rfl
 ·exact vm (o:=(Ieee.double.read x).sum (Ieee.double.read y)) (fun d a=>IC a) h
 ·exact vm (o:=(Ieee.double.read x).sum (Ieee.double.read y).opposite) (fun d a=>IC a) h
 ·exact vm (o:=(Ieee.double.read x).product (Ieee.double.read y)) (fun d a=>AY a) h
 ·exact vm (o:=(Ieee.double.read x).quotient 54 (Ieee.double.read y)) (fun d a=>xy a) h
def dJ (v a b:Int):Int:=
 if ltB b a then (if ltB v b then b else if ltB a v then a else v)
 else if ltB a b then (if ltB v a then a else if ltB b v then b else v)
 else (if ltB v a then a else if ltB a v then a else v)
theorem IL (v a b:Int) (w:World) (m:U64 v) (o:U64 a) (n:U64 b) :
  Calls Tryz.prog 149 #[.int .u64 v,.int .u64 a,.int .u64 b] w fun e c=>e=.returned (.int .u64 (dJ v a b))/\c=w:=by
 have d:=hideS fun (x y:Int) (j:World) (h:U64 x) (i:U64 y)=>gF x y j h i
 unfold dJ;cases l:ltB b a
 ·cases k:ltB a b
  ·cases f:ltB v a<;>cases g:ltB a v
   all_goals
    go_enter Tryz.func149,Tryz.ntmps149
    go_wp2_with (go_at_call 60;refine (d.out _ _ _ (by assumption) (by assumption)).mono ?_;rintro e c ⟨rfl,rfl⟩)
    go_ret
    exact⟨rfl,rfl⟩
  ·cases f:ltB v a<;>cases g:ltB b v
   all_goals
    go_enter Tryz.func149,Tryz.ntmps149
    go_wp2_with (go_at_call 60;refine (d.out _ _ _ (by assumption) (by assumption)).mono ?_;rintro e c ⟨rfl,rfl⟩)
    go_ret
    exact⟨rfl,rfl⟩
 ·cases f:ltB v b<;>cases g:ltB a v
  all_goals
   go_enter Tryz.func149,Tryz.ntmps149
   go_wp2_with (go_at_call 60;refine (d.out _ _ _ (by assumption) (by assumption)).mono ?_;rintro e c ⟨rfl,rfl⟩)
   go_ret
   exact⟨rfl,rfl⟩
theorem xK {v a b:Int} (d:U64 v) (e:U64 a) (c:U64 b):U64 (dJ v a b):=by
 unfold dJ
 (repeat' split)<;>assumption
theorem aA {u v:Int} (b:ah u=false) (a:ah v=false):ltB u v=decide (ae u<ae v):=by
 unfold ltB;rw [b,a];simp
theorem MS {v a b:Int} (d:ah v=false) (e:ah a=false) (c:ah b=false) (h:ae a<=ae b):ah (dJ v a b)=false/\ae a<=ae (dJ v a b)/\ae (dJ v a b)<=ae b:=by
 unfold dJ;rw [aA c e,aA d c,aA e d,aA e c,aA d e,aA c d];simp only [decide_eq_true_eq];rw [if_neg (by omega)]
 (repeat' split)<;>exact⟨by assumption,by omega,by omega⟩
theorem EM {v a b:Int} (d:ah v=false) (e:ah a=false) (c:ah b=false) (h:ae b<=ae a):ah (dJ v a b)=false/\ae b<=ae (dJ v a b)/\ae (dJ v a b)<=ae a:=by
 unfold dJ;rw [aA c e,aA d c,aA e d,aA e c,aA d e,aA c d];simp only [decide_eq_true_eq]
 (repeat' split)<;>exact⟨by assumption,by omega,by omega⟩
def opO (op:BinOp) (a b:Option Nat):Option Nat:=a.bind fun a=>b.bind fun b=>floatBits op .f64 a b
theorem jp {op:BinOp} {o o':Option Nat} {a c:Nat} (h:Ag o a) (b:Ag o' c):opO op o o'=floatBits op .f64 a c:=by
 unfold opO;cases o with
 | none=>rw [eD (eV h).1];rfl
 | some r=>
  rw [cz h];cases o' with
  | none=>rw [fu (eV b).1];rfl
  | some d=>rw [cz b];rfl
theorem dm (op:BinOp) (b:op=.add\/op=.sub\/op=.mul\/op=.quo) (t:TypeId) (a c:Nat) (w:World):∃ r,(∃ q,(binOp op t (.float .f64 a) (.float .f64 c)).run Tryz.prog w=.ok (.float .f64 r) (w.drewN q))/\Ag (floatBits op .f64 a c) r:=by
 cases h:floatBits op .f64 a c with
 | some r=>exact⟨r,⟨0,run_float_arith (P:=Tryz.prog) w op t .f64 a c r h⟩,rfl⟩
 | none=>exact⟨_,⟨1,eu (P:=Tryz.prog) op b t a c h w⟩,iu a c w⟩
theorem cH (w:World) (kind:Int) (b a:Value):TBox w kind b a (w.alloc (.cells #[.int .i64 kind,b,a] 195)):=
 ⟨by simp,by simp,by simp,(Below.refl _ _).alloc (Nat.le_refl _) _,by simp⟩
theorem bF (m:Int):floatOfInt .f64 m=fi m:=by
 show Ieee.double.nearest (decide (m<0)) m.natAbs 0=_
 unfold fi aI
 by_cases a:m=0
 ·subst a;rfl
 ·rw [if_neg a,bV _ (by omega)]
  by_cases b:m<0
  ·simp only [b,decide_true,if_true];rw [gM]
  ·simp only [b,decide_false,if_false];rw [im]
theorem tI (P:Program) (w:World) (a:Addr) (x:Nat) (z:Value) (h:w.cell? a=some z) (b:w.frozen? a=false):(store a (.float .f64 x)).run P w=.ok () (w.setCell a (.float .f64 x)):=by
 rw [run_store P w a _ _ rfl,h];simp [b]
theorem yr:(Tryz.prog.info? 27).map (fun i=>(i.zero,i.size,i.bytes))=some (some (.float .f64 0),1,8):=by kernel_rfl
def expL:List Nat:=[4607182418800017408,4607182418800017408,4602678819172646912,4595172819793696085,4586165620538955093,4575957461383581969,4564047942368979991,4551452160554016794,4537941361671905306,4523617214285662004,4508805057796939612,4493156764026750180,4477122120089393304,4460272573143870729]
def lnL:List Nat:=[4607182418800017408,4599676419421066581,4596373779694328218,4594314991293244562,4592670820000712476,4591215111030249286,4590207312512236308,4589468260265693457,4588638185040256542,4587745830934523688,4587023449039406616]
def kp:Nat->Nat
 | 0=>1
 | k+1=>kp k*max k 1
theorem DH:∀ k,k<14->floatBits .quo .f64 4607182418800017408 (fi (kp (k+1):Int))=some (expL.getD k 0):=by decide+kernel
theorem Jv:∀ k,k<11->floatBits .quo .f64 4607182418800017408 (fi ((2*k+1:Nat):Int))=some (lnL.getD k 0):=by decide+kernel
theorem vP:∀ k,k<15->1<=kp k/\kp k<=6227020800:=by decide+kernel
def tJ (w:World) (b n:Nat) (l:List Nat) (j:Nat):Prop:=w.rowIs b 27 n (fun i=>.float .f64 (if i<j then l.getD i 0 else 0))
theorem qz (w:World) (n:Nat) (l:List Nat):tJ (w.alloc (.cells (madeCells #[.float .f64 0] n) 27)) w.heap.size n l 0:=
 (World.rowIs_made w (.float .f64 0) n 27).congr (fun i _=>by rw [if_neg (by omega)])
theorem qA {w:World} {b n j x:Nat} {l:List Nat} (h:tJ w b n l j) (a:x=l.getD j 0):tJ (w.setCell ⟨b,j,none⟩ (.float .f64 x)) b n l (j+1):=by
 refine (h.set j (.float .f64 x)).congr fun i _=>?_
 by_cases c:i=j
 ·rw [if_pos c,if_pos (by omega),a,c]
 ·rw [if_neg c]
  by_cases d:i<j
  ·rw [if_pos d,if_pos (by omega)]
  ·rw [if_neg d,if_neg (by omega)]
theorem tK {w:World} {b n:Nat} {l:List Nat} (h:tJ w b n l n) (hn:l.length=n):Src w (some ⟨b,0,none⟩) b 0 l:=
 ⟨fun _=>rfl,fun _=>h.lt,fun j a=>by
  rw [Nat.zero_add];have:=h.cell (i:=j) (by omega)
  rw [if_pos (by omega)] at this;exact this⟩
theorem vQ (w:World) :
  Calls Tryz.prog 84 #[] w fun e v=>e=.returned (.slice (some ⟨w.heap.size,0,none⟩) 14 14)/\Src v (some ⟨w.heap.size,0,none⟩) w.heap.size 0 expL/\Below w.heap.size w v:=by
 have h:=fun w=>run_make_row' (P:=Tryz.prog) 24 27 (.float .f64 0) 8 Tryz.underlying24 yr rfl .i64 .i64 14 (by omega) (by omega) w
 rw [show ((14:Nat):Int)=14 from rfl] at h
 have z:=hideS (qz w 14 expL)
 go_enter Tryz.func84,Tryz.ntmps84
 go_wp2_with fail
 go_loopw [2,5] (fun s i wr=>∃ k f:Nat,k<=14/\i=.int .i64 k/\s=.int .i64 f/\Hid (f=kp k)/\Hid (tJ wr w.heap.size 14 expL k)/\Hid (Below w.heap.size w wr)) (fun _ i _=>14 - (intOf i).toNat)
 case atStart=>exact⟨0,1,Nat.zero_le _,rfl,rfl,rfl,z,(Below.refl _ _).alloc (Nat.le_refl _) _⟩
 case round=>
  clear z h;obtain⟨k,f,G,rfl,rfl,o,j,u⟩:=hrel
  by_cases d:k<14
  ·have B:=vP k (by omega)
   have t:=vP (k+1) (by omega)
   rw [<- o.out] at B
   have b:=DH k d;obtain⟨c,a⟩:∃ c,kp (k+1)=c:=⟨_,rfl⟩;have q:Hid (c=kp (k+1)):=a.symm;rw [a] at b t
   have l:max (k:Int) 1=((max k 1:Nat):Int):=by omega
   have p:(f:Int)*((max k 1:Nat):Int)=(c:Int):=by rw [<- a];show _=((kp k*max k 1:Nat):Int);rw [o.out,Int.natCast_mul]
   clear a o;generalize ((max k 1:Nat):Int)=F at l p
   obtain⟨x,m⟩:∃ x,expL.getD k 0=x:=⟨_,rfl⟩;have C:Hid (x=expL.getD k 0):=m.symm;rw [m] at b
   clear m;have r:=bF (c:Int);have D:=fun w=>run_float_arith (P:=Tryz.prog) w .quo 27 .f64 4607182418800017408 (fi (c:Int)) x b
   clear b;generalize fi (c:Int)=y at r D
   have g:=j.out.cell (i:=k) d;rw [if_neg (by omega)] at g
   have n:=j.out.frozen k;have A:=tI Tryz.prog wr ⟨w.heap.size,k,none⟩ x _ g n
   go_wp2_with fail
   go_roundw
   case rel=>exact⟨k+1,c,by omega,by simp,rfl,q,qA j.out C.out,u.out.setCell (Nat.le_refl _) _⟩
   case measure=>simp [intOf];omega
  ·obtain rfl:k=14:=by omega
   have E:=hideS (tK j.out (by rfl))
   go_wp2_with fail
   go_ret
   exact⟨rfl,E.out,u.out⟩
theorem yt (w:World) :
  Calls Tryz.prog 230 #[] w fun e p=>e=.returned (.slice (some ⟨w.heap.size,0,none⟩) 11 11)/\Src p (some ⟨w.heap.size,0,none⟩) w.heap.size 0 lnL/\Below w.heap.size w p:=by
 have d:=fun w=>run_make_row' (P:=Tryz.prog) 24 27 (.float .f64 0) 8 Tryz.underlying24 yr rfl .i64 .i64 11 (by omega) (by omega) w
 rw [show ((11:Nat):Int)=11 from rfl] at d
 have q:=hideS (qz w 11 lnL)
 go_enter Tryz.func230,Tryz.ntmps230
 go_wp2_with fail
 go_loopw [4] (fun i wr=>∃ k:Nat,k<=11/\i=.int .i64 k/\Hid (tJ wr w.heap.size 11 lnL k)/\Hid (Below w.heap.size w wr)) (fun i _=>11 - (intOf i).toNat)
 case atStart=>exact⟨0,Nat.zero_le _,rfl,q,(Below.refl _ _).alloc (Nat.le_refl _) _⟩
 case round=>
  clear q d;obtain⟨k,v,rfl,f,n⟩:=hrel
  by_cases b:k<11
  ·have a:=Jv k b;have j:(2:Int)*(k:Int)+1=((2*k+1:Nat):Int):=by omega
   obtain⟨m,o⟩:∃ m:Int,((2*k+1:Nat):Int)=m:=⟨_,rfl⟩;rw [o] at a j
   clear o;obtain⟨x,g⟩:∃ x,lnL.getD k 0=x:=⟨_,rfl⟩;have s:Hid (x=lnL.getD k 0):=g.symm;rw [g] at a
   clear g;have l:=bF m;have t:=fun w=>run_float_arith (P:=Tryz.prog) w .quo 27 .f64 4607182418800017408 (fi m) x a
   clear a;generalize fi m=y at l t
   have c:=f.out.cell (i:=k) b;rw [if_neg (by omega)] at c
   have h:=f.out.frozen k;have r:=tI Tryz.prog wr ⟨w.heap.size,k,none⟩ x _ c h
   go_wp2_with fail
   go_roundw
   case rel=>exact⟨k+1,by omega,by simp,qA f.out s.out,n.out.setCell (Nat.le_refl _) _⟩
   case measure=>simp [intOf];omega
  ·obtain rfl:k=11:=by omega
   have u:=hideS (tK f.out (by rfl))
   go_wp2_with fail
   go_ret
   exact⟨rfl,u.out,n.out⟩
end Go.Proofs.YtfdddijdjpijbaaGreat
