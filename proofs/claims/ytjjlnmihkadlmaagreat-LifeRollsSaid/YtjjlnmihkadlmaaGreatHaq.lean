/-  -/
import Derived.Test.YtjjlnmihkadlmaaGreatHap
import Derived.WalkKit
import Derived.LoopTactic
import Derived.BigCall
import Derived.BigQuiet
import Derived.Maps.AppendAt
import Derived.Laws.OwnMore
import Derived.Deep.OwnRows
import Derived.Test.YtjjlnmihkadlmaaGreatFlt
namespace Go.Proofs.YtjjlnmihkadlmaaGreat
open Go.RowKit

theorem hideS {p:Prop} (h:p):Hid p:=h
theorem turned {P:Program} {f:Nat} {args:Array Value} {w:World} {Q:Ending→Prop} (h:Calls P f args w fun e w'=>Q e∧w'=w):Calls P f args w fun e w'=>Q e∧w=w':=
 h.mono fun _ _ ⟨a,b⟩=>⟨a,b.symm⟩
theorem infoU:(Tryz.prog.info? 57).map (fun i=>(i.zero,i.size,i.bytes))=some (some (.int .u64 0),1,8):=by kernel_rfl
theorem own_below {w w':World} {B e size n:Nat} {v:Value} {xs:List Value} (h:w.ownsRow B e size v n xs) (hb:Below w.heap.size w w'):w'.ownsRow B e size v n xs:=by
 refine⟨h.1,?_⟩
 rcases h.2 with hn | ⟨g,cap,cur,rfl,hg,hgg,rest⟩
 ·exact .inl hn
 ·exact .inr ⟨g,cap,cur,rfl,hg,by rw [hb.block g (Array.getElem?_eq_some_iff.1 hgg).1];exact hgg,rest⟩

def uV (x:Nat):Value:=.int .u64 (x:Int)
def fV (x:Nat):Value:=.float .f64 x
theorem getD_some {l:List Nat} {i:Nat} (hi:i<l.length):l[i]? =some (l.getD i 0):=by simp [List.getD,List.getElem?_eq_getElem hi]
def rowOf (f:Nat→Value) (l:List Nat) (k:Nat):List Value:=(l.take k).map f
theorem take_next {f:Nat→Value} {l:List Nat} {k:Nat} (hk:k<l.length):rowOf f l (k+1)=rowOf f l k++[f (l.getD k 0)]:=by
 unfold rowOf
 rw [List.take_add_one,getD_some hk,List.map_append];rfl
theorem rowOf_all (f:Nat→Value) (l:List Nat):rowOf f l l.length=l.map f:=by unfold rowOf;rw [List.take_length]

structure Src (w:World) (p:Option Addr) (b off:Nat) (xs:List Nat):Prop where
 at_:0<xs.length→p=some ⟨b,off,none⟩
 lt:0<xs.length→b<w.heap.size
 cell:∀ j,j<xs.length→w.cell? ⟨b,off+j,none⟩=some (.float .f64 (xs.getD j 0))
theorem Src.below {w w':World} {p:Option Addr} {b off:Nat} {xs:List Nat} (h:Src w p b off xs) (hb:Below w.heap.size w w'):Src w' p b off xs:=
 ⟨h.at_,fun hx=>Nat.lt_of_lt_of_le (h.lt hx) hb.size,fun j hj=>(hb.cell (p:=⟨b,off+j,none⟩) (h.lt (by omega))).trans (h.cell j hj)⟩

structure OwnF (w:World) (B t:Nat) (f:Nat→Value) (v:Value) (xs:List Nat):Prop where
 own:w.ownsRow B t 1 v xs.length (xs.map f)
theorem OwnF.below {w w':World} {B t:Nat} {f:Nat→Value} {v:Value} {xs:List Nat} (h:OwnF w B t f v xs) (hb:Below w.heap.size w w'):OwnF w' B t f v xs:=⟨own_below h.own hb⟩
theorem OwnF.shape {w:World} {B t:Nat} {f:Nat→Value} {v:Value} {xs:List Nat} (h:OwnF w B t f v xs) :
  ∃ p g c,v=.slice p xs.length c∧(0<xs.length→p=some ⟨g,0,none⟩ ∧B≤g∧g<w.heap.size)∧∀ j,j<xs.length→w.cell? ⟨g,j,none⟩=some (f (xs.getD j 0)):=by
 rcases h.own.2 with⟨hv,hn⟩| ⟨g,cap,cur,hv,hb,hg,_⟩
 ·exact⟨none,0,0,by rw [hv,hn],fun h0=>by omega,fun j hj=>by omega⟩
 ·refine⟨some ⟨g,0,none⟩,g,cap,hv,fun _=>⟨rfl,hb,(Array.getElem?_eq_some_iff.1 hg).1⟩,fun j hj=>?_⟩
  have h2:=h.own
  rw [hv] at h2
  rw [h2.cellAt j (by omega),List.getElem?_map,getD_some hj];rfl
end Go.Proofs.YtjjlnmihkadlmaaGreat
namespace Go.Proofs.YtjjlnmihkadlmaaGreat
open Go.RowKit

def Kx (f:Nat) (u z:Int):Prop:=∀ w,Calls Tryz.prog f #[.int .u64 u] w fun e w'=>e=.returned (.int .u64 z)∧Below w.heap.size w w'
def ltB (u v:Int):Bool:=!ag u&&!ag v&&decide (ae u<ae v)
def bE (u:Int):Bool:=decide (szI u<9218868437227405312)
set_option maxHeartbeats 800000 in
theorem il (u v:Int) (w:World) (h:U64 u) (h':U64 v) :
  Calls Tryz.prog 97 #[.int .u64 u,.int .u64 v] w fun e w'=>e=.returned (.bool (ltB u v))∧w'=w:=by
 have H1:=hideS fun w=>eI u w h
 have H2:=hideS fun w=>eI v w h'
 unfold ltB
 generalize ae u=a at *
 generalize ae v=c at *
 generalize ag u=m at *
 generalize ag v=n at *
 clear h h'
 go_enter Tryz.func97,Tryz.ntmps97
 go_wp2_with fail
 refine (H1.out _).mono ?_
 rintro e w' ⟨rfl,rfl⟩
 go_wp2_with fail
 refine (H2.out _).mono ?_
 rintro e w' ⟨rfl,rfl⟩
 cases m<;>cases n
 all_goals go_wp2_with fail
 all_goals go_ret
 all_goals exact⟨by simp,rfl⟩

set_option maxHeartbeats 400000 in
theorem mp (u:Int) (w:World) (h:U64 u) :
  Calls Tryz.prog 65 #[.int .u64 u] w fun e w'=>e=.returned (.bool (bE u))∧w'=w:=by
 have hz:=cL h
 unfold bE
 go_enter Tryz.func65,Tryz.ntmps65
 go_wp2
 go_ret
 exact⟨rfl,rfl⟩

end Go.Proofs.YtjjlnmihkadlmaaGreat
namespace Go.Proofs.YtjjlnmihkadlmaaGreat
open Go.RowKit

set_option maxHeartbeats 400000 in
theorem aX (b:Nat) (w:World) (h:U64 b) :
  Calls Tryz.prog 90 #[.float .f64 b] w fun e w'=>e=.returned (.bool (ag b))∧w'=w:=by
 have h1:(FloatKind.f64.format.order b b !=some .eq)=ag b:=by rw [bne,Gh h,Bool.not_not]
 clear h
 go_enter Tryz.func90,Tryz.ntmps90
 go_wp2
 go_ret
 exact⟨rfl,rfl⟩

theorem mq (x y:Int):(compare x y==.gt)=decide (y<x):=by
 show (compareOfLessAndEq x y==.gt)=_
 unfold compareOfLessAndEq
 by_cases a:x<y
 ·have:¬ y<x:=by omega
  simp [a,this]
 ·by_cases b:x=y
  ·simp [b]
  ·have:y<x:=by omega
   simp [a,b,this]
theorem im {a b:Nat} (ha:U64 a) (hb:U64 b) (hna:ag a=false) (hnb:ag b=false):(FloatKind.f64.format.order a b==some .gt)=decide (ae b<ae a):=by
 rw [fP (by have:=ha.2;omega) (by have:=hb.2;omega) hna hnb,← mq];rfl

theorem io {r:Nat} (h:r≤9218868437227405312):ag (r:Int)=false:=by unfold ag szI;rw [decide_eq_false_iff_not];omega
theorem dV {r:Nat} (h:r≤9218868437227405312):ae (r:Int)=r:=by
 unfold ae
 have hs:sgB (r:Int)=false:=by unfold sgB;rw [decide_eq_false_iff_not];omega
 rw [io h,hs]
 show szI (r:Int)=r
 unfold szI;omega
theorem szN (x:Nat):szI (x:Int)=((x % 9223372036854775808:Nat):Int):=by unfold szI;omega
theorem qT {x:Nat} (h:ag (x:Int)=false):(FloatKind.f64.format.order (x % 9223372036854775808) 9218868437227405311==some .gt)=!bE (x:Int):=by
 have h1:=dM h
 have e:bE (x:Int)=decide (x % 9223372036854775808<9218868437227405312):=by
  unfold bE;rw [szN];exact decide_eq_decide.2 (by omega)
 rw [e]
 generalize x % 9223372036854775808=a at *
 rw [im (ah (by omega)) (ah (by omega)) (io h1) (io (r:=9218868437227405311) (by omega)),dV h1,dV (r:=9218868437227405311) (by omega)]
 by_cases c:a<9218868437227405312
 ·rw [decide_eq_true c];exact decide_eq_false (by omega)
 ·rw [decide_eq_false c];exact decide_eq_true (by omega)

theorem qU {x:Nat} (h:ag (x:Int)=true):bE (x:Int)=false:=by
 unfold ag at h;unfold bE
 have:=of_decide_eq_true h
 exact decide_eq_false (by omega)

set_option maxHeartbeats 400000 in
theorem CG (x:Nat) (w:World) (h:U64 x) :
  Calls Tryz.prog 100 #[.float .f64 x] w fun e w'=>e=.returned (.float .f64 (x % 9223372036854775808))∧w'=w:=by
 have h1:=pk
 have h2:=bR
 have h3:=cL h
 have h4:(szI (x:Int)).toNat=x % 9223372036854775808:=by rw [szN];rfl
 clear h
 go_enter Tryz.func100,Tryz.ntmps100
 go_wp2
 go_ret
 exact⟨rfl,rfl⟩

set_option maxHeartbeats 400000 in
theorem iY (x:Nat) (g:Bool) (w:World) (h:U64 x) (hg:(FloatKind.f64.format.order (x % 9223372036854775808) 9218868437227405311==some .gt)=g) :
  Calls Tryz.prog 61 #[.float .f64 x,.int .i64 0] w fun e w'=>e=.returned (.bool g)∧w'=w:=by
 have H:=hideS fun w=>CG x w h
 clear h
 generalize x % 9223372036854775808=a at *
 go_enter Tryz.func61,Tryz.ntmps61
 go_wp2_with fail
 refine (H.out _).mono ?_
 rintro e w' ⟨rfl,rfl⟩
 go_wp2_with fail
 go_ret
 exact⟨rfl,rfl⟩

end Go.Proofs.YtjjlnmihkadlmaaGreat
namespace Go.Proofs.YtjjlnmihkadlmaaGreat
open Go.RowKit

def dG (kind:Int) (xs:List Int) (ys:List Nat) (i:Nat):Bool:=
 decide (xs.getD i 0<0)||decide (109572<xs.getD i 0)||(decide (0<i)&&decide (xs.getD i 0≤xs.getD (i - 1) 0))||!bE (ys.getD i 0:Nat)||(decide (kind=4)&&!ltB 0 (ys.getD i 0:Nat))
structure OkT (kind:Int) (xs:List Int) (ys:List Nat):Prop where
 k1:1≤kind
 k4:kind≤4
 lo:1≤xs.length
 hi:xs.length≤256
 len:ys.length=xs.length
 node:∀ i<xs.length,dG kind xs ys i=false
inductive TabR (kind:Int) (xs:List Int) (ys:List Nat):Int→Prop
 | ok (h:OkT kind xs ys):TabR kind xs ys 0
 | kind (h:kind<1∨4<kind):TabR kind xs ys 90
 | len (h1:1≤kind) (h4:kind≤4) (h:xs.length<1∨256<xs.length∨ys.length≠xs.length):TabR kind xs ys 100
 | node (h1:1≤kind) (h4:kind≤4) (lo:1≤xs.length) (hi:xs.length≤256) (len:ys.length=xs.length) (K:Nat) (hK:K<xs.length) (bad:dG kind xs ys K=true) (fine:∀ i<K,dG kind xs ys i=false):TabR kind xs ys 100
theorem cZ {p:Nat→Bool}:∀ N,(∃ i<N,p i=true)→∃ k<N,p k=true∧∀ j<k,p j=false
 | 0,⟨i,hi,_⟩=>by omega
 | N+1,⟨i,hi,hp⟩=>by
  by_cases h:∃ i<N,p i=true
  ·obtain⟨k,hk,h1,h2⟩:=cZ N h
   exact⟨k,by omega,h1,h2⟩
  ·have hN:i=N:=Classical.byContradiction fun c=>h ⟨i,by omega,hp⟩
   subst hN
   exact⟨i,by omega,hp,fun j hj=>by
    cases hc:p j
    ·rfl
    ·exact absurd ⟨j,hj,hc⟩ h⟩
theorem Gk (kind:Int) (xs:List Int) (ys:List Nat):∃ E,TabR kind xs ys E:=by
 by_cases hk:kind<1∨4<kind
 ·exact⟨90,.kind hk⟩
 ·by_cases hl:xs.length<1∨256<xs.length∨ys.length≠xs.length
  ·exact⟨100,.len (by omega) (by omega) hl⟩
  ·by_cases hb:∃ i<xs.length,dG kind xs ys i=true
   ·obtain⟨K,hK,h1,h2⟩:=cZ _ hb
    exact⟨100,.node (by omega) (by omega) (by omega) (by omega) (by omega) K hK h1 h2⟩
   ·exact⟨0,.ok ⟨by omega,by omega,by omega,by omega,by omega,fun i hi=>by
     cases hc:dG kind xs ys i
     ·rfl
     ·exact absurd ⟨i,hi,hc⟩ hb⟩⟩
theorem ao {kind:Int} {xs:List Int} {ys:List Nat} {i:Nat} (h:dG kind xs ys i=false):0≤xs.getD i 0∧xs.getD i 0≤109572∧(0<i→xs.getD (i - 1) 0<xs.getD i 0)∧bE (ys.getD i 0:Nat)=true∧(kind=4→ltB 0 (ys.getD i 0:Nat)=true):=by
 unfold dG at h
 simp only [Bool.or_eq_false_iff,Bool.and_eq_false_iff,decide_eq_false_iff_not,Bool.not_eq_false'] at h
 obtain⟨⟨⟨⟨a,b⟩,c⟩,d⟩,e⟩:=h
 refine⟨by omega,by omega,fun hi=>?_,d,fun hk=>?_⟩
 ·rcases c with c | c<;>omega
 ·rcases e with e | e
  ·exact absurd hk e
  ·exact e
theorem OkT.step {kind:Int} {xs:List Int} {ys:List Nat} (h:OkT kind xs ys) {i:Nat} (hi:i+1<xs.length):xs.getD i 0<xs.getD (i+1) 0:=by
 have:=(ao (h.node (i+1) hi)).2.2.1 (by omega)
 simpa using this
theorem OkT.rise {kind:Int} {xs:List Int} {ys:List Nat} (h:OkT kind xs ys) {i j:Nat} (hij:i<j) (hj:j<xs.length):xs.getD i 0<xs.getD j 0:=by
 obtain⟨d,rfl⟩:∃ d,j=i+1+d:=⟨j - i - 1,by omega⟩
 induction d with
 | zero=>exact h.step (by omega)
 | succ d ih=>
  have a:=ih (by omega) (by omega)
  have b:=h.step (i:=i+1+d) (by omega)
  exact Int.lt_trans a b
structure FindR (xs:List Int) (x:Int) (k:Nat):Prop where
 lt:k<xs.length
 le:xs.getD k 0≤x
 gt:k+1<xs.length→x<xs.getD (k+1) 0
theorem Gl {xs:List Int} {x:Int} (hlo:0<xs.length) (h0:xs.getD 0 0≤x):∃ k,FindR xs x k∧∀ j<k,j+1<xs.length∧xs.getD (j+1) 0≤x:=by
 by_cases hb:∃ i<xs.length,decide (i+1<xs.length→x<xs.getD (i+1) 0)=true
 ·obtain⟨k,hk,h1,h2⟩:=cZ (p:=fun i=>decide (i+1<xs.length→x<xs.getD (i+1) 0)) _ hb
  have h3:∀ j<k,j+1<xs.length∧xs.getD (j+1) 0≤x:=fun j hj=>by
   have:=h2 j hj
   rw [decide_eq_false_iff_not] at this
   obtain⟨a,b⟩:=Classical.not_imp.1 this
   exact⟨a,by omega⟩
  refine⟨k,⟨hk,?_,of_decide_eq_true h1⟩,h3⟩
  by_cases hz:k=0
  ·rw [hz];exact h0
  ·have:=(h3 (k - 1) (by omega)).2
   rwa [show k - 1+1=k by omega] at this
 ·exact absurd ⟨xs.length - 1,by omega,decide_eq_true (fun c=>by omega)⟩ hb
end Go.Proofs.YtjjlnmihkadlmaaGreat
namespace Go.Proofs.YtjjlnmihkadlmaaGreat
open Go.RowKit

structure VSrc (w:World) (p:Option Addr) (b off n:Nat) (f:Nat→Value):Prop where
 at_:0<n→p=some ⟨b,off,none⟩
 lt:0<n→b<w.heap.size
 cell:∀ j<n,w.cell? ⟨b,off+j,none⟩=some (f j)
theorem VSrc.below {w w':World} {p:Option Addr} {b off n:Nat} {f:Nat→Value} (h:VSrc w p b off n f) (hb:Below w.heap.size w w'):VSrc w' p b off n f:=
 ⟨h.at_,fun hx=>Nat.lt_of_lt_of_le (h.lt hx) hb.size,fun j hj=>(hb.cell (p:=⟨b,off+j,none⟩) (h.lt (by omega))).trans (h.cell j hj)⟩
def xV (xs:List Int) (j:Nat):Value:=.int .i64 (xs.getD j 0)
def yV (ys:List Nat) (j:Nat):Value:=.int .u64 (ys.getD j 0:Nat)
def flV (ys:List Nat) (j:Nat):Value:=.float .f64 (ys.getD j 0)
structure TBox (w:World) (kind:Int) (vx vy:Value) (wr:World):Prop where
 t0:wr.cell? ⟨w.heap.size,0,none⟩=some (.int .i64 kind)
 t1:wr.cell? ⟨w.heap.size,1,none⟩=some vx
 t2:wr.cell? ⟨w.heap.size,2,none⟩=some vy
 bl:Below w.heap.size w wr
 lt:w.heap.size<wr.heap.size
theorem bL (w:World) (kind:Int) (vx vy:Value):TBox w kind vx vy (w.alloc (.cells #[.int .i64 kind,vx,vy] 169)):=
 ⟨by simp,by simp,by simp,(Below.refl _ _).alloc (Nat.le_refl _) _,by simp⟩
theorem TBox.step {w wr w':World} {kind:Int} {vx vy:Value} (h:TBox w kind vx vy wr) (hb:Below wr.heap.size wr w'):TBox w kind vx vy w':=
 ⟨(hb.cell (p:=⟨w.heap.size,0,none⟩) h.lt).trans h.t0,(hb.cell (p:=⟨w.heap.size,1,none⟩) h.lt).trans h.t1,(hb.cell (p:=⟨w.heap.size,2,none⟩) h.lt).trans h.t2,h.bl.trans (hb.mono h.bl.size),Nat.lt_of_lt_of_le h.lt hb.size⟩
end Go.Proofs.YtjjlnmihkadlmaaGreat
namespace Go.Proofs.YtjjlnmihkadlmaaGreat
open Go.RowKit

set_option maxHeartbeats 800000 in
theorem lJ (kind:Int) (px py:Option Addr) (n m cx cy:Nat) (w:World) (h:kind<1∨4<kind) :
  Calls Tryz.prog 169 #[.agg #[.int .i64 kind,.slice px n cx,.slice py m cy]] w fun e w'=>e=.returned (.int .i64 90)∧Below w.heap.size w w':=by
 have HB:=hideS (bL w kind (.slice px n cx) (.slice py m cy))
 rcases (show kind<1∨(1≤kind∧4<kind) by omega) with h1 | ⟨h1,h2⟩
 all_goals
  clear h
  go_enter Tryz.func169,Tryz.ntmps169
  go_wp2_with fail
  go_ret
  exact⟨rfl,HB.out.bl⟩
set_option maxHeartbeats 1600000 in
theorem mz (kind:Int) (px py:Option Addr) (n m cx cy:Nat) (w:World) (h1:1≤kind) (h4:kind≤4) (h:n<1∨256<n∨m≠n) :
  Calls Tryz.prog 169 #[.agg #[.int .i64 kind,.slice px n cx,.slice py m cy]] w fun e w'=>e=.returned (.int .i64 100)∧Below w.heap.size w w':=by
 have HB:=hideS (bL w kind (.slice px n cx) (.slice py m cy))
 rcases (show n=0∨(1≤n∧256<n)∨(1≤n∧n≤256∧m≠n) by omega) with a | ⟨a,b⟩| ⟨a,b,c⟩
 ·subst a
  go_enter Tryz.func169,Tryz.ntmps169
  go_wp2_with fail
  go_ret
  exact⟨rfl,HB.out.bl⟩
 ·have a':¬ (n:Int)<1:=by omega
  have b':(256:Int)<n:=by omega
  go_enter Tryz.func169,Tryz.ntmps169
  go_wp2_with fail
  go_ret
  exact⟨rfl,HB.out.bl⟩
 ·have a':¬ (n:Int)<1:=by omega
  have b':¬ (256:Int)<n:=by omega
  have c':((n:Int) !=(m:Int))=true:=bne_iff_ne.2 (by omega)
  go_enter Tryz.func169,Tryz.ntmps169
  go_wp2_with fail
  go_ret
  exact⟨rfl,HB.out.bl⟩
inductive NodeC (kind:Int) (i:Nat) (x px:Int) (fin pos:Bool):Bool→Prop
 | neg (h:x<0):NodeC kind i x px fin pos true
 | far (h0:0≤x) (h:109572<x):NodeC kind i x px fin pos true
 | back (h0:0≤x) (h1:x≤109572) (hi:0<i) (h:x≤px):NodeC kind i x px fin pos true
 | inf (h0:0≤x) (h1:x≤109572) (hi:i=0∨(0<i∧px<x)) (h:fin=false):NodeC kind i x px fin pos true
 | low (h0:0≤x) (h1:x≤109572) (hi:i=0∨(0<i∧px<x)) (h:fin=true) (hk:kind=4) (hp:pos=false):NodeC kind i x px fin pos true
 | fine (h0:0≤x) (h1:x≤109572) (hi:i=0∨(0<i∧px<x)) (h:fin=true) (hk:kind≠4∨(kind=4∧pos=true)):NodeC kind i x px fin pos false
theorem CT (kind:Int) (xs:List Int) (ys:List Nat) (i:Nat):NodeC kind i (xs.getD i 0) (xs.getD (i - 1) 0) (bE (ys.getD i 0:Nat)) (ltB 0 (ys.getD i 0:Nat)) (dG kind xs ys i):=by
 obtain⟨R,hR⟩:∃ R,dG kind xs ys i=R:=⟨_,rfl⟩
 rw [hR]
 unfold dG at hR
 generalize xs.getD i 0=x at *
 generalize xs.getD (i - 1) 0=q at *
 generalize bE (ys.getD i 0:Nat)=f at *
 generalize ltB 0 (ys.getD i 0:Nat)=p at *
 by_cases a:x<0
 ·simp [a] at hR
  subst hR;exact .neg a
 ·by_cases b:109572<x
  ·simp [b] at hR
   subst hR;exact .far (by omega) b
  ·by_cases c:0<i∧x≤q
   ·simp [c] at hR
    subst hR;exact .back (by omega) (by omega) c.1 c.2
   ·have hi:i=0∨(0<i∧q<x):=by omega
    have hc:(decide (0<i)&&decide (x≤q))=false:=by
     rw [Bool.and_eq_false_iff,decide_eq_false_iff_not,decide_eq_false_iff_not]
     omega
    rw [hc,decide_eq_false a,decide_eq_false b] at hR
    cases f
    ·simp at hR
     subst hR;exact .inf (by omega) (by omega) hi rfl
    ·by_cases k:kind=4
     ·cases p
      ·simp [k] at hR
       subst hR;exact .low (by omega) (by omega) hi rfl k rfl
      ·simp at hR
       subst hR;exact .fine (by omega) (by omega) hi rfl (Or.inr ⟨k,rfl⟩)
     ·simp [k] at hR
      subst hR;exact .fine (by omega) (by omega) hi rfl (Or.inl k)
def yO (kind:Int) (k:Nat) (x q:Int) (f p:Bool):Prop:=
 x<0∨(0≤x∧109572<x)∨(0≤x∧x≤109572∧0<k∧x≤q)∨(0≤x∧x≤109572∧¬ 0<k∧f=false)∨(0≤x∧x≤109572∧0<k∧¬ x≤q∧f=false)∨(0≤x∧x≤109572∧¬ 0<k∧f=true∧kind=4∧p=false)∨(0≤x∧x≤109572∧0<k∧¬ x≤q∧f=true∧kind=4∧p=false)
def tc (kind:Int) (k:Nat) (x q:Int) (f p:Bool):Prop:=
 0≤x∧x≤109572∧f=true∧((¬ 0<k∧(kind==4)=false)∨(0<k∧¬ x≤q∧(kind==4)=false)∨(¬ 0<k∧(kind==4)=true∧p=true)∨(0<k∧¬ x≤q∧(kind==4)=true∧p=true))
theorem Ae {kind:Int} {k:Nat} {x q:Int} {f p:Bool} (h:NodeC kind k x q f p true):yO kind k x q f p:=by
 unfold yO
 generalize hR:true=R at h
 cases h with
 | neg h=>exact Or.inl h
 | far h0 h=>exact Or.inr (Or.inl ⟨h0,h⟩)
 | back h0 h1 hi h=>exact Or.inr (Or.inr (Or.inl ⟨h0,h1,hi,h⟩))
 | inf h0 h1 hi h=>
  rcases hi with a | ⟨a,b⟩
  ·exact Or.inr (Or.inr (Or.inr (Or.inl ⟨h0,h1,by omega,h⟩)))
  ·exact Or.inr (Or.inr (Or.inr (Or.inr (Or.inl ⟨h0,h1,a,by omega,h⟩))))
 | low h0 h1 hi h hk hp=>
  rcases hi with a | ⟨a,b⟩
  ·exact Or.inr (Or.inr (Or.inr (Or.inr (Or.inr (Or.inl ⟨h0,h1,by omega,h,hk,hp⟩)))))
  ·exact Or.inr (Or.inr (Or.inr (Or.inr (Or.inr (Or.inr ⟨h0,h1,a,by omega,h,hk,hp⟩)))))
 | fine=>cases hR
theorem wO {kind:Int} {k:Nat} {x q:Int} {f p:Bool} (h:NodeC kind k x q f p false):tc kind k x q f p:=by
 unfold tc
 generalize hR:false=R at h
 cases h with
 | fine h0 h1 hi h hk=>
  refine⟨h0,h1,h,?_⟩
  rcases hi with a | ⟨a,b⟩ <;>rcases hk with c | ⟨c,d⟩
  ·exact Or.inl ⟨by omega,beq_false_of_ne c⟩
  ·exact Or.inr (Or.inr (Or.inl ⟨by omega,beq_iff_eq.2 c,d⟩))
  ·exact Or.inr (Or.inl ⟨a,by omega,beq_false_of_ne c⟩)
  ·exact Or.inr (Or.inr (Or.inr ⟨a,by omega,beq_iff_eq.2 c,d⟩))
 | neg=>cases hR
 | far=>cases hR
 | back=>cases hR
 | inf=>cases hR
 | low=>cases hR

set_option maxHeartbeats 12800000 in
theorem gF (kind:Int) (px py:Option Addr) (bx ox cx b2 oy cy n K:Nat) (xs:List Int) (ys:List Nat) (w:World) (hX:VSrc w px bx ox n (xV xs)) (hY:VSrc w py b2 oy n (yV ys)) (hf:∀ i<n,U64 (ys.getD i 0:Nat)) (h1:1≤kind) (h4:kind≤4) (hn:1≤n) (hn':n≤256) (hK:K≤n) (hfine:∀ i<K,dG kind xs ys i=false) (hbad:K<n→dG kind xs ys K=true) :
  Calls Tryz.prog 169 #[.agg #[.int .i64 kind,.slice px n cx,.slice py n cy]] w fun e w'=>e=.returned (.int .i64 (if K<n then 100 else 0))∧Below w.heap.size w w':=by
 obtain⟨w1,hw1⟩:∃ w1,w.alloc (.cells #[.int .i64 kind,.slice px n cx,.slice py n cy] 169)=w1:=⟨_,rfl⟩
 have HB:Hid (TBox w kind (.slice px n cx) (.slice py n cy) w1):=by show TBox _ _ _ _ _;rw [← hw1];exact bL w kind (.slice px n cx) (.slice py n cy)
 have HX:=hideS (hX.below HB.out.bl)
 have HY:=hideS (hY.below HB.out.bl)
 have HF:=hideS hf
 have HA:=hideS hfine
 have HBd:=hideS hbad
 have HNm:=hideS fun (u:Int) (wx:World) (hu:U64 u)=>mp u wx hu
 have HLt:=hideS fun (u:Int) (wx:World) (hu:U64 u)=>il 0 u wx (by unfold U64;decide) hu
 obtain rfl:=hX.at_ (by omega)
 obtain rfl:=hY.at_ (by omega)
 have n1:¬ (n:Int)<1:=by omega
 have n2:¬ (256:Int)<n:=by omega
 obtain⟨R,hR⟩:∃ R:Int,(if K<n then 100 else 0)=R:=⟨_,rfl⟩
 rw [hR]
 have HR:=hideS hR
 clear hR
 have s0:=HB.out.t0
 have s1:=HB.out.t1
 have s2:=HB.out.t2
 clear hX hY hf hfine hbad
 go_enter Tryz.func169,Tryz.ntmps169
 go_wp2_with fail
 clear hw1 s0 s1 s2
 go_loopw [3] (fun i wr=>∃ k:Nat,k≤K∧i=.int .i64 k∧Hid (∃ q,wr=w1.drewN q)) (fun i _=>n - (intOf i).toNat)
 case atStart=>exact⟨0,Nat.zero_le _,rfl,⟨0,rfl⟩⟩
 case round=>
  obtain⟨k,hk,rfl,HQ⟩:=hrel
  have t0:wr.cell? ⟨w.heap.size,0,none⟩=some (.int .i64 kind):=by obtain⟨q,e⟩:=HQ.out;rw [e];exact HB.out.t0
  have t1:wr.cell? ⟨w.heap.size,1,none⟩=some (.slice (some ⟨bx,ox,none⟩) n cx):=by obtain⟨q,e⟩:=HQ.out;rw [e];exact HB.out.t1
  have t2:wr.cell? ⟨w.heap.size,2,none⟩=some (.slice (some ⟨b2,oy,none⟩) n cy):=by obtain⟨q,e⟩:=HQ.out;rw [e];exact HB.out.t2
  by_cases hlt:k<n
  ·have hcx:wr.cell? ⟨bx,ox+k,none⟩=some (.int .i64 (xs.getD k 0)):=by obtain⟨q,e⟩:=HQ.out;rw [e];exact HX.out.cell k hlt
   have hcy:wr.cell? ⟨b2,oy+k,none⟩=some (.int .u64 (ys.getD k 0:Nat)):=by obtain⟨q,e⟩:=HQ.out;rw [e];exact HY.out.cell k hlt
   have hcq:0<k→wr.cell? ⟨bx,ox+(k - 1),none⟩=some (.int .i64 (xs.getD (k - 1) 0)):=fun h=>by obtain⟨q,e⟩:=HQ.out;rw [e];exact HX.out.cell (k - 1) (by omega)
   have HC:=CT kind xs ys k
   have HU:=hideS (HF.out k hlt)
   have HNk:=hideS fun wx=>HNm.out _ wx HU.out
   have HLk:=hideS fun wx=>HLt.out _ wx HU.out
   by_cases hkK:k<K
   ·rw [HA.out k hkK] at HC
    obtain⟨g0,g1,g2,HC'⟩:=wO HC
    rw [g2] at HNk
    clear HC g2
    generalize xs.getD k 0=x at *
    generalize xs.getD (k - 1) 0=q at *
    generalize hyk:((ys.getD k 0:Nat):Int)=y at *
    clear hyk
    generalize ltB 0 y=p at *
    rcases HC' with⟨a1,a2⟩| ⟨a1,a2,a3⟩| ⟨a1,a3,rfl⟩| ⟨a1,a2,a3,rfl⟩
    ·have d1:decide (x<0)=false:=decide_eq_false (by omega)
     have d2:decide (109572<x)=false:=decide_eq_false (by omega)
     have d3:decide (0<k)=false:=decide_eq_false a1
     have d4:decide ((0:Int)<(k:Int))=false:=decide_eq_false (by omega)
     clear hcq
     clear HA HBd HF HX HY HB HNm HLt HU n1 n2 h1 h4 hn g0 g1 a1
     go_wp2_with fail
     go_quiet (first | (go_at_call 65;exact Calls.quiet_of_same (HNk.out _)) | (go_at_call 97;exact Calls.quiet_of_same (HLk.out _)))
     go_wp2_with fail
     go_roundw
     case rel=>exact⟨k+1,by omega,by simp,by obtain⟨q,e⟩:=HQ.out;exact⟨q+nq,by rw [e,World.drewN_drewN]⟩⟩
     case measure=>simp [intOf];omega
    ·have d1:decide (x<0)=false:=decide_eq_false (by omega)
     have d2:decide (109572<x)=false:=decide_eq_false (by omega)
     have d3:decide (0<k)=true:=decide_eq_true a1
     have d4:decide ((0:Int)<(k:Int))=true:=decide_eq_true (by omega)
     obtain⟨j,hj⟩:∃ j,k=j+1:=⟨k - 1,by omega⟩
     have hkj:(k:Int) - 1=(j:Int):=by omega
     have hjn:j<n:=by omega
     have hcq':=hcq a1
     rw [show k - 1=j by omega] at hcq'
     clear hcq hj
     have d5:decide (x≤q)=false:=decide_eq_false a2
     clear HA HBd HF HX HY HB HNm HLt HU n1 n2 h1 h4 hn g0 g1 a1
     go_wp2_with fail
     go_quiet (first | (go_at_call 65;exact Calls.quiet_of_same (HNk.out _)) | (go_at_call 97;exact Calls.quiet_of_same (HLk.out _)))
     go_wp2_with fail
     go_roundw
     case rel=>exact⟨k+1,by omega,by simp,by obtain⟨q,e⟩:=HQ.out;exact⟨q+nq,by rw [e,World.drewN_drewN]⟩⟩
     case measure=>simp [intOf];omega
    ·have d1:decide (x<0)=false:=decide_eq_false (by omega)
     have d2:decide (109572<x)=false:=decide_eq_false (by omega)
     have d3:decide (0<k)=false:=decide_eq_false a1
     have d4:decide ((0:Int)<(k:Int))=false:=decide_eq_false (by omega)
     clear hcq
     clear HA HBd HF HX HY HB HNm HLt HU n1 n2 h1 h4 hn g0 g1 a1
     go_wp2_with fail
     go_quiet (first | (go_at_call 65;exact Calls.quiet_of_same (HNk.out _)) | (go_at_call 97;exact Calls.quiet_of_same (HLk.out _)))
     go_wp2_with fail
     go_roundw
     case rel=>exact⟨k+1,by omega,by simp,by obtain⟨q,e⟩:=HQ.out;exact⟨q+nq,by rw [e,World.drewN_drewN]⟩⟩
     case measure=>simp [intOf];omega
    ·have d1:decide (x<0)=false:=decide_eq_false (by omega)
     have d2:decide (109572<x)=false:=decide_eq_false (by omega)
     have d3:decide (0<k)=true:=decide_eq_true a1
     have d4:decide ((0:Int)<(k:Int))=true:=decide_eq_true (by omega)
     obtain⟨j,hj⟩:∃ j,k=j+1:=⟨k - 1,by omega⟩
     have hkj:(k:Int) - 1=(j:Int):=by omega
     have hjn:j<n:=by omega
     have hcq':=hcq a1
     rw [show k - 1=j by omega] at hcq'
     clear hcq hj
     have d5:decide (x≤q)=false:=decide_eq_false a2
     clear HA HBd HF HX HY HB HNm HLt HU n1 n2 h1 h4 hn g0 g1 a1
     go_wp2_with fail
     go_quiet (first | (go_at_call 65;exact Calls.quiet_of_same (HNk.out _)) | (go_at_call 97;exact Calls.quiet_of_same (HLk.out _)))
     go_wp2_with fail
     go_roundw
     case rel=>exact⟨k+1,by omega,by simp,by obtain⟨q,e⟩:=HQ.out;exact⟨q+nq,by rw [e,World.drewN_drewN]⟩⟩
     case measure=>simp [intOf];omega
   ·obtain rfl:k=K:=by omega
    rw [HBd.out hlt] at HC
    have HC':=Ae HC
    clear HC
    have HR1:Hid ((100:Int)=R):=by show _=_;rw [← HR.out,if_pos hlt]
    clear HR
    generalize xs.getD k 0=x at *
    generalize xs.getD (k - 1) 0=q at *
    generalize hyk:((ys.getD k 0:Nat):Int)=y at *
    clear hyk
    generalize ltB 0 y=p at *
    generalize bE y=f at *
    have HBl:Hid (∀ m,Below w.heap.size w (wr.drewN m)):=fun m=>by obtain⟨q,e⟩:=HQ.out;rw [e,World.drewN_drewN];exact⟨HB.out.bl.os,HB.out.bl.tape,HB.out.bl.output,HB.out.bl.size,HB.out.bl.block⟩
    rcases HC' with a | ⟨a,b⟩| ⟨a,b,a1,c⟩| ⟨a,b,a1,rfl⟩| ⟨a,b,a1,c,rfl⟩| ⟨a,b,a1,rfl,rfl,rfl⟩| ⟨a,b,a1,c,rfl,rfl,rfl⟩
    ·have d1:decide (x<0)=true:=decide_eq_true a
     clear hcq
     clear HA HBd HF HX HY HB HNm HLt HU n1 n2 h1 h4 hn
     go_wp2_with fail
     go_quiet (first | (go_at_call 65;exact Calls.quiet_of_same (HNk.out _)) | (go_at_call 97;exact Calls.quiet_of_same (HLk.out _)))
     go_wp2_with fail
     go_ret
     exact⟨by rw [← HR1.out];rfl,HBl.out _⟩
    ·have d1:decide (x<0)=false:=decide_eq_false (by omega)
     have d2:decide (109572<x)=true:=decide_eq_true b
     clear hcq
     clear HA HBd HF HX HY HB HNm HLt HU n1 n2 h1 h4 hn
     go_wp2_with fail
     go_quiet (first | (go_at_call 65;exact Calls.quiet_of_same (HNk.out _)) | (go_at_call 97;exact Calls.quiet_of_same (HLk.out _)))
     go_wp2_with fail
     go_ret
     exact⟨by rw [← HR1.out];rfl,HBl.out _⟩
    ·skip
     have d1:decide (x<0)=false:=decide_eq_false (by omega)
     have d2:decide (109572<x)=false:=decide_eq_false (by omega)
     have d3:decide (0<k)=true:=decide_eq_true a1
     have d4:decide ((0:Int)<(k:Int))=true:=decide_eq_true (by omega)
     obtain⟨j,hj⟩:∃ j,k=j+1:=⟨k - 1,by omega⟩
     have hkj:(k:Int) - 1=(j:Int):=by omega
     have hjn:j<n:=by omega
     have hcq':=hcq a1
     rw [show k - 1=j by omega] at hcq'
     clear hcq hj
     have d5:decide (x≤q)=true:=decide_eq_true c
     clear HA HBd HF HX HY HB HNm HLt HU n1 n2 h1 h4 hn
     go_wp2_with fail
     go_quiet (first | (go_at_call 65;exact Calls.quiet_of_same (HNk.out _)) | (go_at_call 97;exact Calls.quiet_of_same (HLk.out _)))
     go_wp2_with fail
     go_ret
     exact⟨by rw [← HR1.out];rfl,HBl.out _⟩
    ·skip
     have d1:decide (x<0)=false:=decide_eq_false (by omega)
     have d2:decide (109572<x)=false:=decide_eq_false (by omega)
     have d3:decide (0<k)=false:=decide_eq_false a1
     have d4:decide ((0:Int)<(k:Int))=false:=decide_eq_false (by omega)
     clear hcq
     clear HA HBd HF HX HY HB HNm HLt HU n1 n2 h1 h4 hn
     go_wp2_with fail
     go_quiet (first | (go_at_call 65;exact Calls.quiet_of_same (HNk.out _)) | (go_at_call 97;exact Calls.quiet_of_same (HLk.out _)))
     go_wp2_with fail
     go_ret
     exact⟨by rw [← HR1.out];rfl,HBl.out _⟩
    ·skip
     have d1:decide (x<0)=false:=decide_eq_false (by omega)
     have d2:decide (109572<x)=false:=decide_eq_false (by omega)
     have d3:decide (0<k)=true:=decide_eq_true a1
     have d4:decide ((0:Int)<(k:Int))=true:=decide_eq_true (by omega)
     obtain⟨j,hj⟩:∃ j,k=j+1:=⟨k - 1,by omega⟩
     have hkj:(k:Int) - 1=(j:Int):=by omega
     have hjn:j<n:=by omega
     have hcq':=hcq a1
     rw [show k - 1=j by omega] at hcq'
     clear hcq hj
     have d5:decide (x≤q)=false:=decide_eq_false c
     clear HA HBd HF HX HY HB HNm HLt HU n1 n2 h1 h4 hn
     go_wp2_with fail
     go_quiet (first | (go_at_call 65;exact Calls.quiet_of_same (HNk.out _)) | (go_at_call 97;exact Calls.quiet_of_same (HLk.out _)))
     go_wp2_with fail
     go_ret
     exact⟨by rw [← HR1.out];rfl,HBl.out _⟩
    ·skip
     have d1:decide (x<0)=false:=decide_eq_false (by omega)
     have d2:decide (109572<x)=false:=decide_eq_false (by omega)
     have d3:decide (0<k)=false:=decide_eq_false a1
     have d4:decide ((0:Int)<(k:Int))=false:=decide_eq_false (by omega)
     clear hcq
     clear HA HBd HF HX HY HB HNm HLt HU n1 n2 h1 h4 hn
     go_wp2_with fail
     go_quiet (first | (go_at_call 65;exact Calls.quiet_of_same (HNk.out _)) | (go_at_call 97;exact Calls.quiet_of_same (HLk.out _)))
     go_wp2_with fail
     go_ret
     exact⟨by rw [← HR1.out];rfl,HBl.out _⟩
    ·skip
     have d1:decide (x<0)=false:=decide_eq_false (by omega)
     have d2:decide (109572<x)=false:=decide_eq_false (by omega)
     have d3:decide (0<k)=true:=decide_eq_true a1
     have d4:decide ((0:Int)<(k:Int))=true:=decide_eq_true (by omega)
     obtain⟨j,hj⟩:∃ j,k=j+1:=⟨k - 1,by omega⟩
     have hkj:(k:Int) - 1=(j:Int):=by omega
     have hjn:j<n:=by omega
     have hcq':=hcq a1
     rw [show k - 1=j by omega] at hcq'
     clear hcq hj
     have d5:decide (x≤q)=false:=decide_eq_false c
     clear HA HBd HF HX HY HB HNm HLt HU n1 n2 h1 h4 hn
     go_wp2_with fail
     go_quiet (first | (go_at_call 65;exact Calls.quiet_of_same (HNk.out _)) | (go_at_call 97;exact Calls.quiet_of_same (HLk.out _)))
     go_wp2_with fail
     go_ret
     exact⟨by rw [← HR1.out];rfl,HBl.out _⟩
  ·obtain rfl:k=K:=by omega
   have HR1:Hid ((0:Int)=R):=by show _=_;rw [← HR.out,if_neg hlt]
   clear HR
   have hge:¬ (k:Int)<n:=by omega
   have HBl:Hid (Below w.heap.size w wr):=by show Below _ _ _;obtain⟨q,e⟩:=HQ.out;rw [e];exact⟨HB.out.bl.os,HB.out.bl.tape,HB.out.bl.output,HB.out.bl.size,HB.out.bl.block⟩
   go_wp2_with fail
   go_ret
   exact⟨by rw [← HR1.out];rfl,HBl.out⟩
end Go.Proofs.YtjjlnmihkadlmaaGreat
namespace Go.Proofs.YtjjlnmihkadlmaaGreat
open Go.RowKit

structure TSrc (w:World) (px py:Option Addr) (bx ox b2 oy:Nat) (xs:List Int) (ys:List Nat):Prop where
 x:VSrc w px bx ox xs.length (xV xs)
 y:VSrc w py b2 oy ys.length (yV ys)
 f:∀ i<ys.length,U64 (ys.getD i 0:Nat)
theorem TSrc.below {w w':World} {px py:Option Addr} {bx ox b2 oy:Nat} {xs:List Int} {ys:List Nat} (h:TSrc w px py bx ox b2 oy xs ys) (hb:Below w.heap.size w w'):TSrc w' px py bx ox b2 oy xs ys:=⟨h.x.below hb,h.y.below hb,h.f⟩
theorem cR (kind E:Int) (px py:Option Addr) (bx ox cx b2 oy cy:Nat) (xs:List Int) (ys:List Nat) (w:World) (h:TabR kind xs ys E) (hs:TSrc w px py bx ox b2 oy xs ys) :
  Calls Tryz.prog 169 #[.agg #[.int .i64 kind,.slice px xs.length cx,.slice py ys.length cy]] w fun e w'=>e=.returned (.int .i64 E)∧Below w.heap.size w w':=by
 cases h with
 | kind h=>exact lJ kind px py _ _ cx cy w h
 | len h1 h4 h=>exact mz kind px py _ _ cx cy w h1 h4 (by omega)
 | node h1 h4 lo hi len K hK bad fine=>
  have hy:=hs.y
  rw [len] at hy ⊢
  have:=gF kind px py bx ox cx b2 oy cy xs.length K xs ys w hs.x hy (fun i hi'=>hs.f i (by omega)) h1 h4 lo hi (by omega) fine (fun _=>bad)
  rw [if_pos hK] at this
  exact this
 | ok h=>
  have hy:=hs.y
  have hl:=h.len
  rw [hl] at hy ⊢
  have:=gF kind px py bx ox cx b2 oy cy xs.length xs.length xs ys w hs.x hy (fun i hi'=>hs.f i (by omega)) h.k1 h.k4 h.lo h.hi (Nat.le_refl _) h.node (fun c=>absurd c (Nat.lt_irrefl _))
  rw [if_neg (Nat.lt_irrefl _)] at this
  exact this
inductive FindO (kind:Int) (xs:List Int) (ys:List Nat) (x:Int):Int→Int→Prop
 | bad (E:Int) (h:TabR kind xs ys E) (hE:E≠0):FindO kind xs ys x 0 E
 | out (h:OkT kind xs ys) (hx:x<xs.getD 0 0∨xs.getD (xs.length - 1) 0<x):FindO kind xs ys x 0 51
 | at_ (h:OkT kind xs ys) (hlo:xs.getD 0 0≤x) (hhi:x≤xs.getD (xs.length - 1) 0) (k:Nat) (hk:FindR xs x k) (hj:∀ j<k,j+1<xs.length∧xs.getD (j+1) 0≤x):FindO kind xs ys x (k:Int) 0
theorem yP {kind:Int} {xs:List Int} {ys:List Nat} (h:TabR kind xs ys 0):OkT kind xs ys:=by
 generalize hE:(0:Int)=E at h
 cases h with
 | ok h=>exact h
 | kind h=>cases hE
 | len h1 h4 h=>cases hE
 | node=>cases hE
theorem CU (kind:Int) (xs:List Int) (ys:List Nat) (x:Int):∃ k E,FindO kind xs ys x k E:=by
 obtain⟨E,h⟩:=Gk kind xs ys
 by_cases hE:E=0
 ·subst hE
  have ok:=yP h
  by_cases hx:x<xs.getD 0 0∨xs.getD (xs.length - 1) 0<x
  ·exact⟨_,_,.out ok hx⟩
  ·obtain⟨k,hk,hj⟩:=Gl (x:=x) ok.lo (by omega)
   exact⟨_,_,.at_ ok (by omega) (by omega) k hk hj⟩
 ·exact⟨_,_,.bad E h hE⟩

set_option maxHeartbeats 800000 in
theorem oz (kind x E:Int) (v1 v2:Value) (w:World) (hE:E≠0) (HC:Hid (∀ wx,Below w.heap.size w wx→Calls Tryz.prog 169 #[.agg #[.int .i64 kind,v1,v2]] wx fun e w'=>e=.returned (.int .i64 E)∧Below wx.heap.size wx w')) :
  Calls Tryz.prog 138 #[.agg #[.int .i64 kind,v1,v2],.int .i64 x] w fun e w'=>e=.returned (.tuple #[.int .i64 0,.int .i64 E])∧Below w.heap.size w w':=by
 have HB:=hideS (bL w kind v1 v2)
 have hE':(E !=0)=true:=bne_iff_ne.2 hE
 clear hE
 go_enter Tryz.func138,Tryz.ntmps138
 go_wp2_with (go_at_call 169;refine (HC.out _ HB.out.bl).mono ?_;rintro e w1 ⟨rfl,hb1⟩)
 go_ret2
 exact⟨rfl,(HB.out.step hb1).bl⟩
set_option maxHeartbeats 1600000 in
theorem oA (kind x:Int) (px:Option Addr) (bx ox cx:Nat) (n:Nat) (xs:List Int) (v2:Value) (w:World) (hX:VSrc w px bx ox n (xV xs)) (hn:1≤n) (hn':n≤256) (hx:x<xs.getD 0 0∨xs.getD (n - 1) 0<x) (HC:Hid (∀ wx,Below w.heap.size w wx→Calls Tryz.prog 169 #[.agg #[.int .i64 kind,.slice px n cx,v2]] wx fun e w'=>e=.returned (.int .i64 0)∧Below wx.heap.size wx w')) :
  Calls Tryz.prog 138 #[.agg #[.int .i64 kind,.slice px n cx,v2],.int .i64 x] w fun e w'=>e=.returned (.tuple #[.int .i64 0,.int .i64 51])∧Below w.heap.size w w':=by
 have HB:=hideS (bL w kind (.slice px n cx) v2)
 have HX:=hideS fun wx (hb:Below w.heap.size w wx)=>hX.below hb
 obtain rfl:=hX.at_ (by omega)
 obtain⟨m,hm⟩:∃ m,n=m+1:=⟨n - 1,by omega⟩
 have hm1:n - 1=m:=by omega
 rw [hm1] at hx
 have hnm:(n:Int) - 1=(m:Int):=by omega
 have hmn:m<n:=by omega
 have h0n:0<n:=by omega
 clear hX hm hm1 hn
 go_enter Tryz.func138,Tryz.ntmps138
 go_wp2_with fail
 refine (HC.out _ HB.out.bl).mono ?_
 rintro e w1 ⟨rfl,hb1⟩
 have HB1:=hideS (HB.out.step hb1)
 have HX1:=hideS (HX.out _ HB1.out.bl)
 clear hb1
 obtain⟨t0,t1,t2,_,_⟩:=HB1.out
 have e0:w1.cell? ⟨bx,ox,none⟩=some (.int .i64 (xs.getD 0 0)):=HX1.out.cell 0 (by omega)
 have e1:w1.cell? ⟨bx,ox+m,none⟩=some (.int .i64 (xs.getD m 0)):=HX1.out.cell m hmn
 generalize xs.getD 0 0=a at *
 generalize xs.getD m 0=b at *
 rcases (show x<a∨(a≤x∧b<x) by omega) with h | ⟨h,h'⟩
 ·have d1:decide (x<a)=true:=decide_eq_true h
  clear hx
  go_wp2_with fail
  go_ret2
  exact⟨rfl,HB1.out.bl⟩
 ·have d1:decide (x<a)=false:=decide_eq_false (by omega)
  have d2:decide (b<x)=true:=decide_eq_true h'
  clear hx
  go_wp2_with fail
  go_ret2
  exact⟨rfl,HB1.out.bl⟩
set_option maxHeartbeats 3200000 in
theorem qY (kind x:Int) (px:Option Addr) (bx ox cx:Nat) (n K:Nat) (xs:List Int) (v2:Value) (w:World) (hX:VSrc w px bx ox n (xV xs)) (hn:1≤n) (hn':n≤256) (h0:xs.getD 0 0≤x) (h9:x≤xs.getD (n - 1) 0) (hK:K<n) (hgt:K+1<n→x<xs.getD (K+1) 0) (hj:∀ j<K,j+1<n∧xs.getD (j+1) 0≤x) (HC:Hid (∀ wx,Below w.heap.size w wx→Calls Tryz.prog 169 #[.agg #[.int .i64 kind,.slice px n cx,v2]] wx fun e w'=>e=.returned (.int .i64 0)∧Below wx.heap.size wx w')) :
  Calls Tryz.prog 138 #[.agg #[.int .i64 kind,.slice px n cx,v2],.int .i64 x] w fun e w'=>e=.returned (.tuple #[.int .i64 (K:Int),.int .i64 0])∧Below w.heap.size w w':=by
 have HB:=hideS (bL w kind (.slice px n cx) v2)
 have HX:=hideS fun wx (hb:Below w.heap.size w wx)=>hX.below hb
 have HJ:=hideS hj
 have HG:=hideS hgt
 obtain rfl:=hX.at_ (by omega)
 obtain⟨m,hm⟩:∃ m,n=m+1:=⟨n - 1,by omega⟩
 rw [show n - 1=m by omega] at h9
 have hnm:(n:Int) - 1=(m:Int):=by omega
 have hmn:m<n:=by omega
 have h0n:0<n:=by omega
 clear hX hm hn hj hgt
 go_enter Tryz.func138,Tryz.ntmps138
 go_wp2_with fail
 refine (HC.out _ HB.out.bl).mono ?_
 rintro e w1 ⟨rfl,hb1⟩
 have HB1:=hideS (HB.out.step hb1)
 have HX1:=hideS (HX.out _ HB1.out.bl)
 clear hb1
 obtain⟨t0,t1,t2,_,_⟩:=HB1.out
 have e0:w1.cell? ⟨bx,ox,none⟩=some (.int .i64 (xs.getD 0 0)):=HX1.out.cell 0 (by omega)
 have e1:w1.cell? ⟨bx,ox+m,none⟩=some (.int .i64 (xs.getD m 0)):=HX1.out.cell m hmn
 have d1:decide (x<xs.getD 0 0)=false:=decide_eq_false (by omega)
 have d2:decide (xs.getD m 0<x)=false:=decide_eq_false (by omega)
 clear h0 h9
 generalize xs.getD 0 0=a at *
 generalize xs.getD m 0=b at *
 go_wp2_with fail
 clear e0 e1 d1 d2
 go_loop [7] (fun i=>∃ k:Nat,k≤K∧i=.int .i64 k) (fun i=>n - (intOf i).toNat)
 case atStart=>exact⟨0,Nat.zero_le _,rfl⟩
 case round=>
  obtain⟨k,hk,rfl⟩:=hrel
  obtain⟨j,hj⟩:∃ j,k+1=j:=⟨_,rfl⟩
  have hkj:(k:Int)+1=(j:Int):=by omega
  by_cases hkK:k<K
  ·obtain⟨j1,j2⟩:=HJ.out k hkK
   rw [hj] at j1 j2
   have c1:w1.cell? ⟨bx,ox+j,none⟩=some (.int .i64 (xs.getD j 0)):=HX1.out.cell j j1
   have d3:decide (xs.getD j 0≤x)=true:=decide_eq_true j2
   clear j2
   generalize xs.getD j 0=y at *
   have d4:decide ((j:Int)<(n:Int))=true:=decide_eq_true (by omega)
   have HJj:=hideS hj
   clear hj
   go_wp2_with fail
   go_round
   case rel=>exact⟨j,by have:=HJj.out;omega,rfl⟩
   case measure=>have:=HJj.out;simp [intOf];omega
  ·obtain rfl:k=K:=by omega
   by_cases hl:j<n
   ·have c1:w1.cell? ⟨bx,ox+j,none⟩=some (.int .i64 (xs.getD j 0)):=HX1.out.cell j hl
    have d3:decide (xs.getD j 0≤x)=false:=decide_eq_false (by have:=HG.out (by omega);rw [hj] at this;omega)
    generalize xs.getD j 0=y at *
    have d4:decide ((j:Int)<(n:Int))=true:=decide_eq_true (by omega)
    clear hj
    go_wp2_with fail
    go_ret2
    exact⟨rfl,HB1.out.bl⟩
   ·have d4:decide ((j:Int)<(n:Int))=false:=decide_eq_false (by omega)
    clear hj
    go_wp2_with fail
    go_ret2
    exact⟨rfl,HB1.out.bl⟩
theorem cC (kind x k E:Int) (px py:Option Addr) (bx ox cx b2 oy cy:Nat) (xs:List Int) (ys:List Nat) (w:World) (h:FindO kind xs ys x k E) (hs:TSrc w px py bx ox b2 oy xs ys) :
  Calls Tryz.prog 138 #[.agg #[.int .i64 kind,.slice px xs.length cx,.slice py ys.length cy],.int .i64 x] w fun e w'=>e=.returned (.tuple #[.int .i64 k,.int .i64 E])∧Below w.heap.size w w':=by
 cases h with
 | bad E h hE=>exact oz kind x E _ _ w hE (fun wx hb=>cR kind E px py bx ox cx b2 oy cy xs ys wx h (hs.below hb))
 | out h hx=>exact oA kind x px bx ox cx xs.length xs _ w hs.x h.lo h.hi hx (fun wx hb=>cR kind 0 px py bx ox cx b2 oy cy xs ys wx (.ok h) (hs.below hb))
 | at_ h hlo hhi k hk hj=>exact qY kind x px bx ox cx xs.length k xs _ w hs.x h.lo h.hi hlo hhi hk.lt hk.gt hj (fun wx hb=>cR kind 0 px py bx ox cx b2 oy cy xs ys wx (.ok h) (hs.below hb))
end Go.Proofs.YtjjlnmihkadlmaaGreat
namespace Go.Proofs.YtjjlnmihkadlmaaGreat
open Go.RowKit

theorem dz:(Tryz.prog.info? 57).map (fun i=>(i.zero,i.size,i.bytes))=some (some (.int .u64 0),1,8):=by kernel_rfl

set_option maxHeartbeats 400000 in
theorem th (p:Option Addr) (c:Nat) (n:Int) (w:World) :
  Calls Tryz.prog 147 #[.slice p 0 c,.int .i64 n] w fun e w'=>e=.returned (.slice none 0 0)∧w'=w:=by
 go_enter Tryz.func147,Tryz.ntmps147
 go_wp2
 go_ret
 exact⟨rfl,rfl⟩

def Own (w:World) (b n M:Nat):Prop:=w.rowIs b 57 n (fun i=>.int .u64 (dgt M i:Int))
theorem Own.row {w:World} {b n M:Nat} (h:Own w b n M):RowIs w b n M:=fun _ hi=>h.cell hi
theorem mB (w:World) (n:Nat):Own (w.alloc (.cells (madeCells #[.int .u64 0] n) 57)) w.heap.size n 0:=
 (World.rowIs_made w (.int .u64 0) n 57).congr (fun i _=>by rw [te];rfl)

theorem wR {w:World} {b L N q r k n D X:Nat} (h:Own w b L ((N % 2^(32*k))*2^n)) (hn:n=32*q+r) (hr:r<32) (hD:D=dgt N k) (hX:X=D*2^r) (_hL:k+q+1<L) :
  Own ((w.setCell ⟨b,k+q,none⟩ (.int .u64 ((dgt ((N % 2^(32*k))*2^n) (k+q):Int)+(X:Int) % 4294967296))).setCell ⟨b,k+q+1,none⟩ (.int .u64 ((X:Int) / 4294967296))) b L ((N % 2^(32*(k+1)))*2^n):=by
 have h2:=(h.set (k+q) (.int .u64 ((dgt ((N % 2^(32*k))*2^n) (k+q):Int)+(X:Int) % 4294967296))).set (k+q+1) (.int .u64 ((X:Int) / 4294967296))
 refine h2.congr fun j _=>?_
 have hM:N % 2^(32*k)*2^n<2^r*2^(32*(k+q)):=by
  have h1:N % 2^(32*k)<2^(32*k):=Nat.mod_lt _ (Nat.two_pow_pos _)
  have e:2^r*2^(32*(k+q))=2^(32*k)*2^n:=by rw [← Nat.pow_add,← Nat.pow_add];congr 1;omega
  rw [e];exact Nat.mul_lt_mul_of_pos_right h1 (Nat.two_pow_pos _)
 have hx63:X<2^63:=by
  have h1:=bf N k
  have h3:(2:Nat)^r≤2^31:=Nat.pow_le_pow_right (by decide) (by omega)
  rw [hX,hD]
  calc dgt N k*2^r≤dgt N k*2^31:=Nat.mul_le_mul_left _ h3
   _<2^63:=by omega
 have es:N % 2^(32*(k+1))*2^n=N % 2^(32*k)*2^n+X*2^(32*(k+q)):=by
  rw [dZ,Nat.add_mul,hX,hD]
  congr 1
  rw [Nat.mul_assoc,Nat.mul_assoc,← Nat.pow_add,← Nat.pow_add];congr 2;omega
 have key:=IV (j:=j) hM hx63 (by rw [hX,Nat.mul_mod_left]) (by omega)
 rw [← es] at key
 rw [key]
 by_cases c1:j=k+q+1
 ·rw [if_pos c1,if_neg (by omega),if_neg (by omega),if_pos c1];congr 1
 ·rw [if_neg c1]
  by_cases c2:j=k+q
  ·rw [if_pos c2,if_neg (by omega),if_pos c2];congr 1
  ·rw [if_neg c2]
   by_cases c3:j<k+q
   ·rw [if_pos c3]
   ·rw [if_neg c3,if_neg c2,if_neg c1]
    rw [kx]
    refine Nat.lt_of_lt_of_le hM ?_
    rw [← Nat.pow_add];exact Nat.pow_le_pow_right (by decide) (by omega)

set_option maxRecDepth 10000 in
set_option maxHeartbeats 800000 in
theorem tj (g c N m n q r:Nat) (w:World) (hm:1≤m) (hm':m≤10000000) (hn:n≤100000000) (hq:(n:Int) / 32=q) (hr:(n:Int) % 32=r) (hrow:Hid (RowIs w g m N)) (hg:g<w.heap.size) (hN:Hid (N<2^(32*m))) :
  Calls Tryz.prog 147 #[.slice (some ⟨g,0,none⟩) m c,.int .i64 n] w fun e w'=>∃ v,e=.returned v∧DN w' v (N*2^n)∧From w.heap.size v∧Below w.heap.size w w':=by
 have hq1:q≤3125000:=by omega
 have hr1:r<32:=by omega
 have HN:Hid (n=32*q+r):=by show _=_;omega
 have hmk:=fun w=>run_make_row' (P:=Tryz.prog) 30 57 (.int .u64 0) 8 Tryz.underlying30 dz rfl .i64 .i64 (m+q+1) (by omega) (by omega) w
 have ec:((m+q+1:Nat):Int)=(m:Int)+(q:Int)+1:=by omega
 rw [ec] at hmk
 clear ec
 have HO:=aa (mB w (m+q+1))
 go_enter Tryz.func147,Tryz.ntmps147
 go_wp2
 go_loopw [6] (fun i wr=>∃ k:Nat,k≤m∧i=.int .i64 k∧Hid (Own wr w.heap.size (m+q+1) ((N % 2^(32*k))*2^n))∧Hid (Below w.heap.size w wr)) (fun i _=>m - (intOf i).toNat)
 case atStart=>exact⟨0,Nat.zero_le _,rfl,by rw [Nat.mul_zero,Nat.pow_zero,Nat.mod_one,Nat.zero_mul];exact HO,(Below.refl _ _).alloc (Nat.le_refl _) _⟩
 case round=>
  clear HO hmk
  obtain⟨k,hk,rfl,HOwn,HB⟩:=hrel
  by_cases hlt:k<m
  ·have hc:wr.cell? ⟨g,k,none⟩=some (.int .u64 (dgt N k:Int)):=(HB.out.cell (p:=⟨g,k,none⟩) hg).trans (hrow.out k hlt)
   have h1:=HOwn.out.cell (i:=k+q) (by omega)
   have h2:=HOwn.out.cell (i:=k+q+1) (by omega)
   have f1:=HOwn.out.frozen (k+q)
   have f2:=HOwn.out.frozen (k+q+1)
   have b1:=bf ((N % 2^(32*k))*2^n) (k+q)
   have b2:=bf N k
   have HS:=fun D X (hD:D=dgt N k) (hX:X=D*2^r)=>wR HOwn.out HN.out hr1 hD hX (by omega)
   have HS:=aa HS
   generalize hA:dgt ((N % 2^(32*k))*2^n) (k+q)=A at h1 b1 HS
   generalize hE:dgt ((N % 2^(32*k))*2^n) (k+q+1)=E at h2
   generalize hD:dgt N k=D at hc b2
   have HD:=aa hD
   clear hA hE hD
   have hX:IntKind.u64.wrap ((D:Int)*2^r)=((D*2^r:Nat):Int):=by
    have e1:((D:Int)*2^r)=((D*2^r:Nat):Int):=by rw [Int.natCast_mul,Int.natCast_pow];rfl
    have h3:(2:Nat)^r≤2^31:=Nat.pow_le_pow_right (by decide) (by omega)
    have h4:D*2^r≤D*2^31:=Nat.mul_le_mul_left _ h3
    rw [e1,IntKind.wrap_u64];omega
   have hXb:D*2^r<9223372036854775808:=by
    have h3:(2:Nat)^r≤2^31:=Nat.pow_le_pow_right (by decide) (by omega)
    have h4:D*2^r≤D*2^31:=Nat.mul_le_mul_left _ h3
    omega
   generalize hXX:D*2^r=X at hX hXb
   have HXX:=aa hXX
   clear hXX
   go_wp2
   go_roundw
   case rel=>exact⟨k+1,by omega,by go_num,HS.out D X HD.out.symm HXX.out.symm,(HB.out.setCell (Nat.le_refl _) _).setCell (Nat.le_refl _) _⟩
   case measure=>simp [intOf];omega
  ·obtain rfl:k=m:=by omega
   have e:N % 2^(32*k)=N:=Nat.mod_eq_of_lt hN.out
   rw [e] at HOwn
   have hM:Hid (N*2^n<2^(32*(k+q+1))):=by
    show _<_
    have h1:N*2^n<2^(32*k)*2^n:=Nat.mul_lt_mul_of_pos_right hN.out (Nat.two_pow_pos _)
    rw [← Nat.pow_add] at h1
    refine Nat.lt_of_lt_of_le h1 (Nat.pow_le_pow_right (by decide) ?_)
    have:=HN.out;omega
   have hlt2:=HOwn.out.lt
   have HD:=aa (lc HOwn.out.row hM.out (Nat.le_refl _) hlt2)
   clear e
   go_wp2_with fail
   refine (cS _ _ _ _ _ HOwn.out.row hM.out (Nat.le_refl _) (by omega)).mono ?_
   rintro e w' ⟨rfl,rfl⟩
   go_wp2_with fail
   go_ret
   exact⟨_,rfl,HD.out,fR _ _ _ _ (Nat.le_refl _),HB.out⟩

theorem gQ (v:Value) (N n:Nat) (w:World) (h:DN w v N) (hb:nd N≤10000000) (hn:n≤100000000) :
  Calls Tryz.prog 147 #[v,.int .i64 n] w fun e w'=>∃ v,e=.returned v∧DN w' v (N*2^n)∧From w.heap.size v∧Below w.heap.size w w':=by
 rcases h with⟨h0,p,c,rfl⟩| ⟨h0,g,c,rfl,hc,hg,hr⟩
 ·refine (th p c n w).mono ?_
  rintro e w' ⟨rfl,rfl⟩
  exact⟨_,rfl,Or.inl ⟨by rw [h0,Nat.zero_mul],none,0,rfl⟩,gP _,Below.refl _ _⟩
 ·exact tj g c N (nd N) n (n / 32) (n % 32) w (dd h0) hb hn (by omega) (by omega) hr hg (cM N)
theorem lf (v:Value) (N n:Nat) (w:World) (h:DN w v N) (hb:nd N≤10000000) (hn:n≤100000000) :
  Calls Tryz.prog 147 #[v,.int .i64 n] w fun e w'=>∃ v,e=.returned v∧DN w' v (N*2^n)∧Below w.heap.size w w':=
 (gQ v N n w h hb hn).mono fun _ _ ⟨v,a,b,_,d⟩=>⟨v,a,b,d⟩

end Go.Proofs.YtjjlnmihkadlmaaGreat
namespace Go.Proofs.YtjjlnmihkadlmaaGreat
open Go.RowKit

def fW (x y:Nat) (w:World):Nat:=(Question.nanBits .f64 x y).cut (w.tape w.drawn (.nanBits .f64 x y))
theorem fX (x y:Nat) (w:World):ag (fW x y w)=true∧fW x y w<18446744073709551616:=by
 unfold fW
 generalize w.tape w.drawn (.nanBits .f64 x y)=t
 show ag (((t % 2)*2^63+0x7ff0000000000000+1+(t / 2) % (2^52 - 1):Nat):Int)=true∧((t % 2)*2^63+0x7ff0000000000000+1+(t / 2) % (2^52 - 1):Nat)<_
 have h1:t % 2<2:=Nat.mod_lt _ (by decide)
 have h2:(t / 2) % (2^52 - 1)<2^52 - 1:=Nat.mod_lt _ (by decide)
 generalize t % 2=a at *
 generalize (t / 2) % (2^52 - 1)=b at *
 unfold ag szI
 refine⟨?_,by omega⟩
 rw [decide_eq_true_eq];omega
theorem dx {P:Program} (op:BinOp) (ho:op=.add∨op=.sub∨op=.mul∨op=.quo) (t:TypeId) (x y:Nat) (h:floatBits op .f64 x y=none) (w:World):(binOp op t (.float .f64 x) (.float .f64 y)).run P w=.ok (.float .f64 (fW x y w)) w.drew:=by
 rcases ho with rfl | rfl | rfl | rfl<;>unfold floatBits at h<;>simp only at h<;>simp [binOp,Op.floatArith,h,Question.forced,fW]
theorem dB {op:BinOp} {x y:Nat} (h:ag x=true):floatBits op .f64 x y=none:=by
 obtain⟨f,e⟩:=jv (jw h)
 unfold floatBits
 cases op<;>dsimp only<;>first | rfl | skip
 ·show ((Ieee.double.read x).sum (Ieee.double.read y)).map Ieee.double.write=_;rw [e];rfl
 ·show ((Ieee.double.read x).sum (Ieee.double.read y).opposite).map Ieee.double.write=_;rw [e];rfl
 ·show ((Ieee.double.read x).product (Ieee.double.read y)).map Ieee.double.write=_;rw [e];rfl
 ·show ((Ieee.double.read x).quotient 54 (Ieee.double.read y)).map Ieee.double.write=_;rw [e];rfl
theorem dO {op:BinOp} {x y:Nat} (h:ag y=true):floatBits op .f64 x y=none:=by
 obtain⟨f,e⟩:=jv (jw h)
 unfold floatBits
 cases op<;>dsimp only<;>first | rfl | skip
 ·show ((Ieee.double.read x).sum (Ieee.double.read y)).map Ieee.double.write=_;rw [e];cases Ieee.double.read x<;>rfl
 ·show ((Ieee.double.read x).sum (Ieee.double.read y).opposite).map Ieee.double.write=_;rw [e];cases Ieee.double.read x<;>rfl
 ·show ((Ieee.double.read x).product (Ieee.double.read y)).map Ieee.double.write=_;rw [e];cases Ieee.double.read x<;>rfl
 ·show ((Ieee.double.read x).quotient 54 (Ieee.double.read y)).map Ieee.double.write=_;rw [e];cases Ieee.double.read x<;>rfl

def Ag (o:Option Nat) (b:Nat):Prop:=match o with | some r=>b=r | none=>ag b=true∧b<18446744073709551616
theorem dy {r b:Nat} (h:Ag (some r) b):b=r:=h
theorem fY {b:Nat} (h:Ag none b):ag b=true∧b<18446744073709551616:=h
def eO (x:Nat) (p:Option Nat) (c:Nat):Option Nat:=(p.bind fun p=>floatBits .mul .f64 p x).bind fun q=>floatBits .add .f64 q c
def hornAt (cs:List Nat) (x:Nat):Nat→Option Nat
 | 0=>some (cs.getD (cs.length - 1) 0)
 | i+1=>eO x (hornAt cs x i) (cs.getD (cs.length - 2 - i) 0)
def aU (cs:List Nat) (x:Nat):Option Nat:=if cs.length=0 then some 0 else hornAt cs x (cs.length - 1)

theorem GN {o:Option Nat} {a:Nat} (h:Ag o a) (op:BinOp) (x:Nat):(o.bind fun p=>floatBits op .f64 p x)=floatBits op .f64 a x:=by
 cases o with
 | some r=>rw [dy h];rfl
 | none=>rw [dB (fY h).1];rfl
theorem DA {o:Option Nat} {a:Nat} (h:Ag o a) (x y:Nat):eO x o y=(floatBits .mul .f64 a x).bind fun q=>floatBits .add .f64 q y:=by
 unfold eO;rw [GN h]
theorem mR {w wr:World} (h:∃ q,wr=w.drewN q):∃ q,wr.drew=w.drewN q:=by
 obtain⟨q,e⟩:=h;exact⟨q+1,by rw [e];rfl⟩

set_option maxHeartbeats 800000 in
theorem mS (p:Option Addr) (g off c x n:Nat) (cs:List Nat) (w:World) (hs:Src w p g off cs) (hN:cs.length=n) (hn:n≤1000000) :
  Calls Tryz.prog 202 #[.slice p n c,.float .f64 x] w fun e w'=>∃ r,e=.returned (.float .f64 r)∧Ag (aU cs x) r∧∃ q,w'=w.drewN q:=by
 have HS:=hideS hs
 have HN:=hideS hN
 by_cases h0:n=0
 ·subst h0
  have HR:Hid (aU cs x=some 0):=by show _=_;unfold aU;rw [if_pos hN]
  clear hs hN HS HN
  go_enter Tryz.func202,Tryz.ntmps202
  go_wp2
  go_ret
  exact⟨_,rfl,by rw [HR.out];rfl,0,rfl⟩
 obtain⟨m,rfl⟩:∃ m,n=m+1:=⟨n - 1,by omega⟩
 obtain rfl:=hs.at_ (by omega)
 have hc0:=hs.cell m (by omega)
 have HR:Hid (aU cs x=hornAt cs x m):=by show _=_;unfold aU;rw [if_neg (by omega),hN];rfl
 have HA0:Hid (hornAt cs x 0=some (cs.getD m 0)):=by show _=_;unfold hornAt;rw [hN];rfl
 have HA1:Hid (∀ i,hornAt cs x (i+1)=eO x (hornAt cs x i) (cs.getD (m - 1 - i) 0)):=fun i=>by
  show eO x (hornAt cs x i) (cs.getD (cs.length - 2 - i) 0)=_
  rw [hN];rfl
 generalize cs.getD m 0=p0 at hc0 HA0
 clear hs hN h0
 go_enter Tryz.func202,Tryz.ntmps202
 go_wp2_with fail
 go_loopw [6,19] (fun s i wr=>∃ k a:Nat,k≤m∧i=.int .i64 k∧s=.float .f64 a∧Hid (Ag (hornAt cs x k) a)∧Hid (∃ q,wr=w.drewN q)) (fun _ i _=>m - (intOf i).toNat)
 case atStart=>exact⟨0,p0,Nat.zero_le _,rfl,rfl,by rw [HA0.out];rfl,⟨0,rfl⟩⟩
 case round=>
  obtain⟨k,a,hk,rfl,rfl,HA,HQ⟩:=hrel
  by_cases hlt:k<m
  ·have hcx:wr.cell? ⟨g,off+(m - 1 - k),none⟩=some (.float .f64 (cs.getD (m - 1 - k) 0)):=by
    obtain⟨q,e⟩:=HQ.out
    rw [e];exact HS.out.cell (m - 1 - k) (by rw [HN.out];omega)
   have HA2:=hideS (HA1.out k)
   obtain⟨j,hj⟩:∃ j:Nat,m - 1 - k=j:=⟨_,rfl⟩
   have hj2:(m:Int) - 1 - k=j:=by omega
   rw [hj] at hcx HA2
   clear hj
   generalize cs.getD j 0=y at hcx HA2
   rw [DA HA.out] at HA2
   clear HA HA1 HA0
   cases hq:floatBits .mul .f64 a x with
   | some q=>
    have r1:=fun w=>run_float_arith (P:=Tryz.prog) w .mul 54 .f64 a x q hq
    cases hr:floatBits .add .f64 q y with
    | some r=>
     have r2:=fun w=>run_float_arith (P:=Tryz.prog) w .add 54 .f64 q y r hr
     have HE:Hid (Ag (hornAt cs x (k+1)) r):=by rw [HA2.out,hq];show Ag (floatBits .add .f64 q y) r;rw [hr];rfl
     clear hq hr HA2
     go_wp2
     go_roundw
     case rel=>exact⟨k+1,r,by omega,by simp,rfl,HE,HQ⟩
     case measure=>simp [intOf];omega
    | none=>
     have r2:=dx (P:=Tryz.prog) .add (by simp) 54 q y hr
     have HE:Hid (∀ z,Ag (hornAt cs x (k+1)) (fW q y z)):=fun z=>by rw [HA2.out,hq];show Ag (floatBits .add .f64 q y) _;rw [hr];exact fX q y z
     clear hq hr HA2
     go_wp2
     go_roundw
     case rel=>exact⟨k+1,_,by omega,by simp,rfl,HE.out _,mR HQ.out⟩
     case measure=>simp [intOf];omega
   | none=>
    have r1:=dx (P:=Tryz.prog) .mul (by simp) 54 a x hq
    have r2:=fun z=>dx (P:=Tryz.prog) .add (by simp) 54 (fW a x z) y (dB (fX a x z).1)
    have HE:Hid (∀ z z',Ag (hornAt cs x (k+1)) (fW (fW a x z) y z')):=fun z z'=>by rw [HA2.out,hq];exact fX _ y z'
    clear hq HA2
    go_wp2
    go_roundw
    case rel=>exact⟨k+1,_,by omega,by simp,rfl,HE.out _ _,mR (mR HQ.out)⟩
    case measure=>simp [intOf];omega
  ·obtain rfl:k=m:=by omega
   go_wp2
   go_ret
   exact⟨_,rfl,by rw [HR.out];exact HA.out,HQ.out⟩
end Go.Proofs.YtjjlnmihkadlmaaGreat
namespace Go.Proofs.YtjjlnmihkadlmaaGreat
open Go.RowKit

theorem xj {s:Bool} {r:Nat} (h:r≤9218868437227405312):wrd s r<18446744073709551616:=by unfold wrd;split<;>omega
theorem write_lt (d:Ieee.Datum) (h:∀ s f,d≠.nan s f):Ieee.double.write d<18446744073709551616:=by
 cases d with
 | nan s f=>exact absurd rfl (h s f)
 | infinity s=>rw [show Ieee.double.write (.infinity s)=wrd s 9218868437227405312 by cases s<;>decide+kernel];exact xj (Nat.le_refl _)
 | number s m i=>
  show Ieee.double.nearest s m i<_
  by_cases h0:m=0
  ·rw [h0,ck,fT];exact xj (Nat.zero_le _)
  ·rw [bV s h0,fT];exact xj (Nat.min_le_right _ _)
theorem DE {a b d:Ieee.Datum} (h:a.sum b=some d):∀ s f,d≠.nan s f:=by
 intro s f e
 subst e
 cases a<;>cases b<;>simp [Ieee.Datum.sum] at h
theorem xk {a b d:Ieee.Datum} (h:a.product b=some d):∀ s f,d≠.nan s f:=by
 intro s f e
 subst e
 cases a<;>cases b<;>simp [Ieee.Datum.product] at h
theorem tJ {a b d:Ieee.Datum} {k:Nat} (h:a.quotient k b=some d):∀ s f,d≠.nan s f:=by
 intro s f e
 subst e
 cases a<;>cases b<;>simp [Ieee.Datum.quotient] at h
 split at h
 ·split at h<;>cases h
 ·cases h
theorem rC {o:Option Ieee.Datum} {r:Nat} (ho:∀ d,o=some d→∀ s f,d≠.nan s f) (h:o.map Ieee.double.write=some r):r<18446744073709551616:=by
 cases o with
 | none=>cases h
 | some d=>
  have:Ieee.double.write d=r:=Option.some.inj h
  rw [← this];exact write_lt d (ho d rfl)
theorem gW {op:BinOp} (ho:op=.add∨op=.sub∨op=.mul∨op=.quo) {x y r:Nat} (h:floatBits op .f64 x y=some r):r<18446744073709551616:=by
 rcases ho with rfl | rfl | rfl | rfl
 ·exact rC (o:=(Ieee.double.read x).sum (Ieee.double.read y)) (fun d hd=>DE hd) h
 ·exact rC (o:=(Ieee.double.read x).sum (Ieee.double.read y).opposite) (fun d hd=>DE hd) h
 ·exact rC (o:=(Ieee.double.read x).product (Ieee.double.read y)) (fun d hd=>xk hd) h
 ·exact rC (o:=(Ieee.double.read x).quotient 54 (Ieee.double.read y)) (fun d hd=>tJ hd) h
end Go.Proofs.YtjjlnmihkadlmaaGreat
namespace Go.Proofs.YtjjlnmihkadlmaaGreat
open Go.RowKit

def cY (v a b:Int):Int:=
 if ltB b a then (if ltB v b then b else if ltB a v then a else v)
 else if ltB a b then (if ltB v a then a else if ltB b v then b else v)
 else (if ltB v a then a else if ltB a v then a else v)
set_option maxHeartbeats 1600000 in
theorem DM (v a b:Int) (w:World) (hv:U64 v) (ha:U64 a) (hb:U64 b) :
  Calls Tryz.prog 143 #[.int .u64 v,.int .u64 a,.int .u64 b] w fun e w'=>e=.returned (.int .u64 (cY v a b))∧w'=w:=by
 have HL:=hideS fun (x y:Int) (wx:World) (hx:U64 x) (hy:U64 y)=>il x y wx hx hy
 unfold cY
 cases h1:ltB b a
 ·cases h2:ltB a b
  ·cases h3:ltB v a<;>cases h4:ltB a v
   all_goals
    go_enter Tryz.func143,Tryz.ntmps143
    go_wp2_with (go_at_call 97;refine (HL.out _ _ _ (by assumption) (by assumption)).mono ?_;rintro e w' ⟨rfl,rfl⟩)
    go_ret
    exact⟨rfl,rfl⟩
  ·cases h3:ltB v a<;>cases h4:ltB b v
   all_goals
    go_enter Tryz.func143,Tryz.ntmps143
    go_wp2_with (go_at_call 97;refine (HL.out _ _ _ (by assumption) (by assumption)).mono ?_;rintro e w' ⟨rfl,rfl⟩)
    go_ret
    exact⟨rfl,rfl⟩
 ·cases h3:ltB v b<;>cases h4:ltB a v
  all_goals
   go_enter Tryz.func143,Tryz.ntmps143
   go_wp2_with (go_at_call 97;refine (HL.out _ _ _ (by assumption) (by assumption)).mono ?_;rintro e w' ⟨rfl,rfl⟩)
   go_ret
   exact⟨rfl,rfl⟩
theorem tY {v a b:Int} (hv:U64 v) (ha:U64 a) (hb:U64 b):U64 (cY v a b):=by
 unfold cY
 (repeat' split)<;>assumption
theorem ax {u v:Int} (hu:ag u=false) (hv:ag v=false):ltB u v=decide (ae u<ae v):=by
 unfold ltB
 rw [hu,hv];simp
theorem GZ {v a b:Int} (hv:ag v=false) (ha:ag a=false) (hb:ag b=false) (h:ae a≤ae b):ag (cY v a b)=false∧ae a≤ae (cY v a b)∧ae (cY v a b)≤ae b:=by
 unfold cY
 rw [ax hb ha,ax hv hb,ax ha hv,ax ha hb,ax hv ha,ax hb hv]
 simp only [decide_eq_true_eq]
 rw [if_neg (by omega)]
 (repeat' split)<;>exact⟨by assumption,by omega,by omega⟩
theorem AE {v a b:Int} (hv:ag v=false) (ha:ag a=false) (hb:ag b=false) (h:ae b≤ae a):ag (cY v a b)=false∧ae b≤ae (cY v a b)∧ae (cY v a b)≤ae a:=by
 unfold cY
 rw [ax hb ha,ax hv hb,ax ha hv,ax ha hb,ax hv ha,ax hb hv]
 simp only [decide_eq_true_eq]
 (repeat' split)<;>exact⟨by assumption,by omega,by omega⟩
end Go.Proofs.YtjjlnmihkadlmaaGreat
namespace Go.Proofs.YtjjlnmihkadlmaaGreat
open Go.RowKit

def opO (op:BinOp) (a b:Option Nat):Option Nat:=a.bind fun a=>b.bind fun b=>floatBits op .f64 a b
theorem kG {op:BinOp} {o o':Option Nat} {a c:Nat} (h:Ag o a) (h':Ag o' c):opO op o o'=floatBits op .f64 a c:=by
 unfold opO
 cases o with
 | none=>rw [dB (fY h).1];rfl
 | some r=>
  rw [dy h]
  cases o' with
  | none=>rw [dO (fY h').1];rfl
  | some r'=>rw [dy h'];rfl
theorem dq (op:BinOp) (ho:op=.add∨op=.sub∨op=.mul∨op=.quo) (t:TypeId) (a c:Nat) (w:World):∃ r,(∃ q,(binOp op t (.float .f64 a) (.float .f64 c)).run Tryz.prog w=.ok (.float .f64 r) (w.drewN q))∧Ag (floatBits op .f64 a c) r:=by
 cases h:floatBits op .f64 a c with
 | some r=>exact⟨r,⟨0,run_float_arith (P:=Tryz.prog) w op t .f64 a c r h⟩,rfl⟩
 | none=>exact⟨_,⟨1,dx (P:=Tryz.prog) op ho t a c h w⟩,fX a c w⟩
end Go.Proofs.YtjjlnmihkadlmaaGreat
namespace Go.Proofs.YtjjlnmihkadlmaaGreat
open Go.RowKit

theorem cm (w:World) (kind:Int) (vx vy:Value):TBox w kind vx vy (w.alloc (.cells #[.int .i64 kind,vx,vy] 148)):=
 ⟨by simp,by simp,by simp,(Below.refl _ _).alloc (Nat.le_refl _) _,by simp⟩

end Go.Proofs.YtjjlnmihkadlmaaGreat
