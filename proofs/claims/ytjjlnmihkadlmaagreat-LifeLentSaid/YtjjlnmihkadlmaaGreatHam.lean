/-  -/
import Derived.Test.YtjjlnmihkadlmaaGreatHal
import Derived.WalkKit
import Derived.LoopTactic
import Derived.BigCall
import Derived.BigQuiet
import Derived.Maps.AppendAt
import Derived.Laws.OwnMore
import Derived.Deep.OwnRows
import Derived.Test.YtjjlnmihkadlmaaGreatFlt
import Derived.Test.YtjjlnmihkadlmaaGreatHaj
namespace Go.Proofs.YtjjlnmihkadlmaaGreat
open Go.RowKit

theorem hideS {p:Prop} (h:p):Hid p:=h
theorem turned {P:Program} {f:Nat} {args:Array Value} {w:World} {Q:Ending→Prop} (h:Calls P f args w fun e w'=>Q e∧w'=w):Calls P f args w fun e w'=>Q e∧w=w':=
 h.mono fun _ _ ⟨a,b⟩=>⟨a,b.symm⟩
theorem infoU:(Tryz.prog.info? 57).map (fun i=>(i.zero,i.size,i.bytes))=some (some (.int .u64 0),1,8):=by kernel_rfl
theorem own_below {w w':World} {B e size n:Nat} {v:Value} {xs:List Value} (h:w.ownsRow B e size v n xs) (hb:Below w.heap.size w w'):w'.ownsRow B e size v n xs:=by
 refine⟨h.1,?_⟩
 rcases h.2 with hn | ⟨g,cap,cur,rfl,hg,hgg,rest⟩
 ·exact .inl hn
 ·exact .inr ⟨g,cap,cur,rfl,hg,by rw [hb.block g (Array.getElem?_eq_some_iff.1 hgg).1];exact hgg,rest⟩

def uV (x:Nat):Value:=.int .u64 (x:Int)
def fV (x:Nat):Value:=.float .f64 x
theorem getD_some {l:List Nat} {i:Nat} (hi:i<l.length):l[i]? =some (l.getD i 0):=by simp [List.getD,List.getElem?_eq_getElem hi]
def rowOf (f:Nat→Value) (l:List Nat) (k:Nat):List Value:=(l.take k).map f
theorem take_next {f:Nat→Value} {l:List Nat} {k:Nat} (hk:k<l.length):rowOf f l (k+1)=rowOf f l k++[f (l.getD k 0)]:=by
 unfold rowOf
 rw [List.take_add_one,getD_some hk,List.map_append];rfl
theorem rowOf_all (f:Nat→Value) (l:List Nat):rowOf f l l.length=l.map f:=by unfold rowOf;rw [List.take_length]

structure Src (w:World) (p:Option Addr) (b off:Nat) (xs:List Nat):Prop where
 at_:0<xs.length→p=some ⟨b,off,none⟩
 lt:0<xs.length→b<w.heap.size
 cell:∀ j,j<xs.length→w.cell? ⟨b,off+j,none⟩=some (.float .f64 (xs.getD j 0))
theorem Src.below {w w':World} {p:Option Addr} {b off:Nat} {xs:List Nat} (h:Src w p b off xs) (hb:Below w.heap.size w w'):Src w' p b off xs:=
 ⟨h.at_,fun hx=>Nat.lt_of_lt_of_le (h.lt hx) hb.size,fun j hj=>(hb.cell (p:=⟨b,off+j,none⟩) (h.lt (by omega))).trans (h.cell j hj)⟩

structure OwnF (w:World) (B t:Nat) (f:Nat→Value) (v:Value) (xs:List Nat):Prop where
 own:w.ownsRow B t 1 v xs.length (xs.map f)
theorem OwnF.below {w w':World} {B t:Nat} {f:Nat→Value} {v:Value} {xs:List Nat} (h:OwnF w B t f v xs) (hb:Below w.heap.size w w'):OwnF w' B t f v xs:=⟨own_below h.own hb⟩
theorem OwnF.shape {w:World} {B t:Nat} {f:Nat→Value} {v:Value} {xs:List Nat} (h:OwnF w B t f v xs) :
  ∃ p g c,v=.slice p xs.length c∧(0<xs.length→p=some ⟨g,0,none⟩ ∧B≤g∧g<w.heap.size)∧∀ j,j<xs.length→w.cell? ⟨g,j,none⟩=some (f (xs.getD j 0)):=by
 rcases h.own.2 with⟨hv,hn⟩| ⟨g,cap,cur,hv,hb,hg,_⟩
 ·exact⟨none,0,0,by rw [hv,hn],fun h0=>by omega,fun j hj=>by omega⟩
 ·refine⟨some ⟨g,0,none⟩,g,cap,hv,fun _=>⟨rfl,hb,(Array.getElem?_eq_some_iff.1 hg).1⟩,fun j hj=>?_⟩
  have h2:=h.own
  rw [hv] at h2
  rw [h2.cellAt j (by omega),List.getElem?_map,getD_some hj];rfl
end Go.Proofs.YtjjlnmihkadlmaaGreat
namespace Go.Proofs.YtjjlnmihkadlmaaGreat
open Go.RowKit

def Hj (f:Nat) (u z:Int):Prop:=∀ w,Calls Tryz.prog f #[.int .u64 u] w fun e w'=>e=.returned (.int .u64 z)∧Below w.heap.size w w'
def ltB (u v:Int):Bool:=!ag u&&!ag v&&decide (ae u<ae v)
def bL (u:Int):Bool:=decide (szI u<9218868437227405312)
set_option maxHeartbeats 400000 in
theorem uq (u:Int) (w:World) (h:U64 u) :
  Calls Tryz.prog 65 #[.int .u64 u] w fun e w'=>e=.returned (.bool (bL u))∧w'=w:=by
 have hz:=dE h
 unfold bL
 go_enter Tryz.func65,Tryz.ntmps65
 go_wp2
 go_ret
 exact⟨rfl,rfl⟩

end Go.Proofs.YtjjlnmihkadlmaaGreat
namespace Go.Proofs.YtjjlnmihkadlmaaGreat
open Go.RowKit

set_option maxHeartbeats 400000 in
theorem aU (b:Nat) (w:World) (h:U64 b) :
  Calls Tryz.prog 90 #[.float .f64 b] w fun e w'=>e=.returned (.bool (ag b))∧w'=w:=by
 have h1:(FloatKind.f64.format.order b b !=some .eq)=ag b:=by rw [bne,DE h,Bool.not_not]
 clear h
 go_enter Tryz.func90,Tryz.ntmps90
 go_wp2
 go_ret
 exact⟨rfl,rfl⟩

theorem lk (x y:Int):(compare x y==.gt)=decide (y<x):=by
 show (compareOfLessAndEq x y==.gt)=_
 unfold compareOfLessAndEq
 by_cases a:x<y
 ·have:¬ y<x:=by omega
  simp [a,this]
 ·by_cases b:x=y
  ·simp [b]
  ·have:y<x:=by omega
   simp [a,b,this]
theorem gE {a b:Nat} (ha:U64 a) (hb:U64 b) (hna:ag a=false) (hnb:ag b=false):(FloatKind.f64.format.order a b==some .gt)=decide (ae b<ae a):=by
 rw [fp (by have:=ha.2;omega) (by have:=hb.2;omega) hna hnb,← lk];rfl

theorem gF {r:Nat} (h:r≤9218868437227405312):ag (r:Int)=false:=by unfold ag szI;rw [decide_eq_false_iff_not];omega
theorem dK {r:Nat} (h:r≤9218868437227405312):ae (r:Int)=r:=by
 unfold ae
 have hs:sgB (r:Int)=false:=by unfold sgB;rw [decide_eq_false_iff_not];omega
 rw [gF h,hs]
 show szI (r:Int)=r
 unfold szI;omega
theorem szN (x:Nat):szI (x:Int)=((x % 9223372036854775808:Nat):Int):=by unfold szI;omega
theorem pG {x:Nat} (h:ag (x:Int)=false):(FloatKind.f64.format.order (x % 9223372036854775808) 9218868437227405311==some .gt)=!bL (x:Int):=by
 have h1:=dF h
 have e:bL (x:Int)=decide (x % 9223372036854775808<9218868437227405312):=by
  unfold bL;rw [szN];exact decide_eq_decide.2 (by omega)
 rw [e]
 generalize x % 9223372036854775808=a at *
 rw [gE (an (by omega)) (an (by omega)) (gF h1) (gF (r:=9218868437227405311) (by omega)),dK h1,dK (r:=9218868437227405311) (by omega)]
 by_cases c:a<9218868437227405312
 ·rw [decide_eq_true c];exact decide_eq_false (by omega)
 ·rw [decide_eq_false c];exact decide_eq_true (by omega)

theorem pH {x:Nat} (h:ag (x:Int)=true):bL (x:Int)=false:=by
 unfold ag at h;unfold bL
 have:=of_decide_eq_true h
 exact decide_eq_false (by omega)

set_option maxHeartbeats 400000 in
theorem Aq (x:Nat) (w:World) (h:U64 x) :
  Calls Tryz.prog 100 #[.float .f64 x] w fun e w'=>e=.returned (.float .f64 (x % 9223372036854775808))∧w'=w:=by
 have h1:=nV
 have h2:=bN
 have h3:=dE h
 have h4:(szI (x:Int)).toNat=x % 9223372036854775808:=by rw [szN];rfl
 clear h
 go_enter Tryz.func100,Tryz.ntmps100
 go_wp2
 go_ret
 exact⟨rfl,rfl⟩

set_option maxHeartbeats 400000 in
theorem ip (x:Nat) (g:Bool) (w:World) (h:U64 x) (hg:(FloatKind.f64.format.order (x % 9223372036854775808) 9218868437227405311==some .gt)=g) :
  Calls Tryz.prog 61 #[.float .f64 x,.int .i64 0] w fun e w'=>e=.returned (.bool g)∧w'=w:=by
 have H:=hideS fun w=>Aq x w h
 clear h
 generalize x % 9223372036854775808=a at *
 go_enter Tryz.func61,Tryz.ntmps61
 go_wp2_with fail
 refine (H.out _).mono ?_
 rintro e w' ⟨rfl,rfl⟩
 go_wp2_with fail
 go_ret
 exact⟨rfl,rfl⟩

end Go.Proofs.YtjjlnmihkadlmaaGreat
namespace Go.Proofs.YtjjlnmihkadlmaaGreat
open Go.RowKit

def fX (kind:Int) (xs:List Int) (ys:List Nat) (i:Nat):Bool:=
 decide (xs.getD i 0<0)||decide (109572<xs.getD i 0)||(decide (0<i)&&decide (xs.getD i 0≤xs.getD (i - 1) 0))||!bL (ys.getD i 0:Nat)||(decide (kind=4)&&!ltB 0 (ys.getD i 0:Nat))
structure OkT (kind:Int) (xs:List Int) (ys:List Nat):Prop where
 k1:1≤kind
 k4:kind≤4
 lo:1≤xs.length
 hi:xs.length≤256
 len:ys.length=xs.length
 node:∀ i<xs.length,fX kind xs ys i=false
inductive TabR (kind:Int) (xs:List Int) (ys:List Nat):Int→Prop
 | ok (h:OkT kind xs ys):TabR kind xs ys 0
 | kind (h:kind<1∨4<kind):TabR kind xs ys 90
 | len (h1:1≤kind) (h4:kind≤4) (h:xs.length<1∨256<xs.length∨ys.length≠xs.length):TabR kind xs ys 100
 | node (h1:1≤kind) (h4:kind≤4) (lo:1≤xs.length) (hi:xs.length≤256) (len:ys.length=xs.length) (K:Nat) (hK:K<xs.length) (bad:fX kind xs ys K=true) (fine:∀ i<K,fX kind xs ys i=false):TabR kind xs ys 100
theorem cU {p:Nat→Bool}:∀ N,(∃ i<N,p i=true)→∃ k<N,p k=true∧∀ j<k,p j=false
 | 0,⟨i,hi,_⟩=>by omega
 | N+1,⟨i,hi,hp⟩=>by
  by_cases h:∃ i<N,p i=true
  ·obtain⟨k,hk,h1,h2⟩:=cU N h
   exact⟨k,by omega,h1,h2⟩
  ·have hN:i=N:=Classical.byContradiction fun c=>h ⟨i,by omega,hp⟩
   subst hN
   exact⟨i,by omega,hp,fun j hj=>by
    cases hc:p j
    ·rfl
    ·exact absurd ⟨j,hj,hc⟩ h⟩
theorem DH (kind:Int) (xs:List Int) (ys:List Nat):∃ E,TabR kind xs ys E:=by
 by_cases hk:kind<1∨4<kind
 ·exact⟨90,.kind hk⟩
 ·by_cases hl:xs.length<1∨256<xs.length∨ys.length≠xs.length
  ·exact⟨100,.len (by omega) (by omega) hl⟩
  ·by_cases hb:∃ i<xs.length,fX kind xs ys i=true
   ·obtain⟨K,hK,h1,h2⟩:=cU _ hb
    exact⟨100,.node (by omega) (by omega) (by omega) (by omega) (by omega) K hK h1 h2⟩
   ·exact⟨0,.ok ⟨by omega,by omega,by omega,by omega,by omega,fun i hi=>by
     cases hc:fX kind xs ys i
     ·rfl
     ·exact absurd ⟨i,hi,hc⟩ hb⟩⟩
theorem az {kind:Int} {xs:List Int} {ys:List Nat} {i:Nat} (h:fX kind xs ys i=false):0≤xs.getD i 0∧xs.getD i 0≤109572∧(0<i→xs.getD (i - 1) 0<xs.getD i 0)∧bL (ys.getD i 0:Nat)=true∧(kind=4→ltB 0 (ys.getD i 0:Nat)=true):=by
 unfold fX at h
 simp only [Bool.or_eq_false_iff,Bool.and_eq_false_iff,decide_eq_false_iff_not,Bool.not_eq_false'] at h
 obtain⟨⟨⟨⟨a,b⟩,c⟩,d⟩,e⟩:=h
 refine⟨by omega,by omega,fun hi=>?_,d,fun hk=>?_⟩
 ·rcases c with c | c<;>omega
 ·rcases e with e | e
  ·exact absurd hk e
  ·exact e
theorem OkT.step {kind:Int} {xs:List Int} {ys:List Nat} (h:OkT kind xs ys) {i:Nat} (hi:i+1<xs.length):xs.getD i 0<xs.getD (i+1) 0:=by
 have:=(az (h.node (i+1) hi)).2.2.1 (by omega)
 simpa using this
theorem OkT.rise {kind:Int} {xs:List Int} {ys:List Nat} (h:OkT kind xs ys) {i j:Nat} (hij:i<j) (hj:j<xs.length):xs.getD i 0<xs.getD j 0:=by
 obtain⟨d,rfl⟩:∃ d,j=i+1+d:=⟨j - i - 1,by omega⟩
 induction d with
 | zero=>exact h.step (by omega)
 | succ d ih=>
  have a:=ih (by omega) (by omega)
  have b:=h.step (i:=i+1+d) (by omega)
  exact Int.lt_trans a b
structure FindR (xs:List Int) (x:Int) (k:Nat):Prop where
 lt:k<xs.length
 le:xs.getD k 0≤x
 gt:k+1<xs.length→x<xs.getD (k+1) 0
theorem DI {xs:List Int} {x:Int} (hlo:0<xs.length) (h0:xs.getD 0 0≤x):∃ k,FindR xs x k∧∀ j<k,j+1<xs.length∧xs.getD (j+1) 0≤x:=by
 by_cases hb:∃ i<xs.length,decide (i+1<xs.length→x<xs.getD (i+1) 0)=true
 ·obtain⟨k,hk,h1,h2⟩:=cU (p:=fun i=>decide (i+1<xs.length→x<xs.getD (i+1) 0)) _ hb
  have h3:∀ j<k,j+1<xs.length∧xs.getD (j+1) 0≤x:=fun j hj=>by
   have:=h2 j hj
   rw [decide_eq_false_iff_not] at this
   obtain⟨a,b⟩:=Classical.not_imp.1 this
   exact⟨a,by omega⟩
  refine⟨k,⟨hk,?_,of_decide_eq_true h1⟩,h3⟩
  by_cases hz:k=0
  ·rw [hz];exact h0
  ·have:=(h3 (k - 1) (by omega)).2
   rwa [show k - 1+1=k by omega] at this
 ·exact absurd ⟨xs.length - 1,by omega,decide_eq_true (fun c=>by omega)⟩ hb
end Go.Proofs.YtjjlnmihkadlmaaGreat
namespace Go.Proofs.YtjjlnmihkadlmaaGreat
open Go.RowKit

structure VSrc (w:World) (p:Option Addr) (b off n:Nat) (f:Nat→Value):Prop where
 at_:0<n→p=some ⟨b,off,none⟩
 lt:0<n→b<w.heap.size
 cell:∀ j<n,w.cell? ⟨b,off+j,none⟩=some (f j)
theorem VSrc.below {w w':World} {p:Option Addr} {b off n:Nat} {f:Nat→Value} (h:VSrc w p b off n f) (hb:Below w.heap.size w w'):VSrc w' p b off n f:=
 ⟨h.at_,fun hx=>Nat.lt_of_lt_of_le (h.lt hx) hb.size,fun j hj=>(hb.cell (p:=⟨b,off+j,none⟩) (h.lt (by omega))).trans (h.cell j hj)⟩
def xV (xs:List Int) (j:Nat):Value:=.int .i64 (xs.getD j 0)
def yV (ys:List Nat) (j:Nat):Value:=.int .u64 (ys.getD j 0:Nat)
def flV (ys:List Nat) (j:Nat):Value:=.float .f64 (ys.getD j 0)
structure TBox (w:World) (kind:Int) (vx vy:Value) (wr:World):Prop where
 t0:wr.cell? ⟨w.heap.size,0,none⟩=some (.int .i64 kind)
 t1:wr.cell? ⟨w.heap.size,1,none⟩=some vx
 t2:wr.cell? ⟨w.heap.size,2,none⟩=some vy
 bl:Below w.heap.size w wr
 lt:w.heap.size<wr.heap.size
theorem TBox.step {w wr w':World} {kind:Int} {vx vy:Value} (h:TBox w kind vx vy wr) (hb:Below wr.heap.size wr w'):TBox w kind vx vy w':=
 ⟨(hb.cell (p:=⟨w.heap.size,0,none⟩) h.lt).trans h.t0,(hb.cell (p:=⟨w.heap.size,1,none⟩) h.lt).trans h.t1,(hb.cell (p:=⟨w.heap.size,2,none⟩) h.lt).trans h.t2,h.bl.trans (hb.mono h.bl.size),Nat.lt_of_lt_of_le h.lt hb.size⟩
end Go.Proofs.YtjjlnmihkadlmaaGreat
namespace Go.Proofs.YtjjlnmihkadlmaaGreat
open Go.RowKit

end Go.Proofs.YtjjlnmihkadlmaaGreat
namespace Go.Proofs.YtjjlnmihkadlmaaGreat
open Go.RowKit

structure TSrc (w:World) (px py:Option Addr) (bx ox b2 oy:Nat) (xs:List Int) (ys:List Nat):Prop where
 x:VSrc w px bx ox xs.length (xV xs)
 y:VSrc w py b2 oy ys.length (yV ys)
 f:∀ i<ys.length,U64 (ys.getD i 0:Nat)
theorem TSrc.below {w w':World} {px py:Option Addr} {bx ox b2 oy:Nat} {xs:List Int} {ys:List Nat} (h:TSrc w px py bx ox b2 oy xs ys) (hb:Below w.heap.size w w'):TSrc w' px py bx ox b2 oy xs ys:=⟨h.x.below hb,h.y.below hb,h.f⟩
inductive FindO (kind:Int) (xs:List Int) (ys:List Nat) (x:Int):Int→Int→Prop
 | bad (E:Int) (h:TabR kind xs ys E) (hE:E≠0):FindO kind xs ys x 0 E
 | out (h:OkT kind xs ys) (hx:x<xs.getD 0 0∨xs.getD (xs.length - 1) 0<x):FindO kind xs ys x 0 51
 | at_ (h:OkT kind xs ys) (hlo:xs.getD 0 0≤x) (hhi:x≤xs.getD (xs.length - 1) 0) (k:Nat) (hk:FindR xs x k) (hj:∀ j<k,j+1<xs.length∧xs.getD (j+1) 0≤x):FindO kind xs ys x (k:Int) 0
theorem wQ {kind:Int} {xs:List Int} {ys:List Nat} (h:TabR kind xs ys 0):OkT kind xs ys:=by
 generalize hE:(0:Int)=E at h
 cases h with
 | ok h=>exact h
 | kind h=>cases hE
 | len h1 h4 h=>cases hE
 | node=>cases hE
theorem AF (kind:Int) (xs:List Int) (ys:List Nat) (x:Int):∃ k E,FindO kind xs ys x k E:=by
 obtain⟨E,h⟩:=DH kind xs ys
 by_cases hE:E=0
 ·subst hE
  have ok:=wQ h
  by_cases hx:x<xs.getD 0 0∨xs.getD (xs.length - 1) 0<x
  ·exact⟨_,_,.out ok hx⟩
  ·obtain⟨k,hk,hj⟩:=DI (x:=x) ok.lo (by omega)
   exact⟨_,_,.at_ ok (by omega) (by omega) k hk hj⟩
 ·exact⟨_,_,.bad E h hE⟩

end Go.Proofs.YtjjlnmihkadlmaaGreat
namespace Go.Proofs.YtjjlnmihkadlmaaGreat
open Go.RowKit

theorem dq:(Tryz.prog.info? 57).map (fun i=>(i.zero,i.size,i.bytes))=some (some (.int .u64 0),1,8):=by kernel_rfl

set_option maxHeartbeats 400000 in
theorem rF (p:Option Addr) (c:Nat) (n:Int) (w:World) :
  Calls Tryz.prog 147 #[.slice p 0 c,.int .i64 n] w fun e w'=>e=.returned (.slice none 0 0)∧w'=w:=by
 go_enter Tryz.func147,Tryz.ntmps147
 go_wp2
 go_ret
 exact⟨rfl,rfl⟩

def Own (w:World) (b n M:Nat):Prop:=w.rowIs b 57 n (fun i=>.int .u64 (dgt M i:Int))
theorem Own.row {w:World} {b n M:Nat} (h:Own w b n M):RowIs w b n M:=fun _ hi=>h.cell hi
theorem lv (w:World) (n:Nat):Own (w.alloc (.cells (madeCells #[.int .u64 0] n) 57)) w.heap.size n 0:=
 (World.rowIs_made w (.int .u64 0) n 57).congr (fun i _=>by rw [rD];rfl)

theorem uC {w:World} {b L N q r k n D X:Nat} (h:Own w b L ((N % 2^(32*k))*2^n)) (hn:n=32*q+r) (hr:r<32) (hD:D=dgt N k) (hX:X=D*2^r) (_hL:k+q+1<L) :
  Own ((w.setCell ⟨b,k+q,none⟩ (.int .u64 ((dgt ((N % 2^(32*k))*2^n) (k+q):Int)+(X:Int) % 4294967296))).setCell ⟨b,k+q+1,none⟩ (.int .u64 ((X:Int) / 4294967296))) b L ((N % 2^(32*(k+1)))*2^n):=by
 have h2:=(h.set (k+q) (.int .u64 ((dgt ((N % 2^(32*k))*2^n) (k+q):Int)+(X:Int) % 4294967296))).set (k+q+1) (.int .u64 ((X:Int) / 4294967296))
 refine h2.congr fun j _=>?_
 have hM:N % 2^(32*k)*2^n<2^r*2^(32*(k+q)):=by
  have h1:N % 2^(32*k)<2^(32*k):=Nat.mod_lt _ (Nat.two_pow_pos _)
  have e:2^r*2^(32*(k+q))=2^(32*k)*2^n:=by rw [← Nat.pow_add,← Nat.pow_add];congr 1;omega
  rw [e];exact Nat.mul_lt_mul_of_pos_right h1 (Nat.two_pow_pos _)
 have hx63:X<2^63:=by
  have h1:=aX N k
  have h3:(2:Nat)^r≤2^31:=Nat.pow_le_pow_right (by decide) (by omega)
  rw [hX,hD]
  calc dgt N k*2^r≤dgt N k*2^31:=Nat.mul_le_mul_left _ h3
   _<2^63:=by omega
 have es:N % 2^(32*(k+1))*2^n=N % 2^(32*k)*2^n+X*2^(32*(k+q)):=by
  rw [dM,Nat.add_mul,hX,hD]
  congr 1
  rw [Nat.mul_assoc,Nat.mul_assoc,← Nat.pow_add,← Nat.pow_add];congr 2;omega
 have key:=FJ (j:=j) hM hx63 (by rw [hX,Nat.mul_mod_left]) (by omega)
 rw [← es] at key
 rw [key]
 by_cases c1:j=k+q+1
 ·rw [if_pos c1,if_neg (by omega),if_neg (by omega),if_pos c1];congr 1
 ·rw [if_neg c1]
  by_cases c2:j=k+q
  ·rw [if_pos c2,if_neg (by omega),if_pos c2];congr 1
  ·rw [if_neg c2]
   by_cases c3:j<k+q
   ·rw [if_pos c3]
   ·rw [if_neg c3,if_neg c2,if_neg c1]
    rw [jL]
    refine Nat.lt_of_lt_of_le hM ?_
    rw [← Nat.pow_add];exact Nat.pow_le_pow_right (by decide) (by omega)

set_option maxRecDepth 10000 in
set_option maxHeartbeats 800000 in
theorem rG (g c N m n q r:Nat) (w:World) (hm:1≤m) (hm':m≤10000000) (hn:n≤100000000) (hq:(n:Int) / 32=q) (hr:(n:Int) % 32=r) (hrow:Hid (RowIs w g m N)) (hg:g<w.heap.size) (hN:Hid (N<2^(32*m))) :
  Calls Tryz.prog 147 #[.slice (some ⟨g,0,none⟩) m c,.int .i64 n] w fun e w'=>∃ v,e=.returned v∧DN w' v (N*2^n)∧From w.heap.size v∧Below w.heap.size w w':=by
 have hq1:q≤3125000:=by omega
 have hr1:r<32:=by omega
 have HN:Hid (n=32*q+r):=by show _=_;omega
 have hmk:=fun w=>run_make_row' (P:=Tryz.prog) 30 57 (.int .u64 0) 8 Tryz.underlying30 dq rfl .i64 .i64 (m+q+1) (by omega) (by omega) w
 have ec:((m+q+1:Nat):Int)=(m:Int)+(q:Int)+1:=by omega
 rw [ec] at hmk
 clear ec
 have HO:=aa (lv w (m+q+1))
 go_enter Tryz.func147,Tryz.ntmps147
 go_wp2
 go_loopw [6] (fun i wr=>∃ k:Nat,k≤m∧i=.int .i64 k∧Hid (Own wr w.heap.size (m+q+1) ((N % 2^(32*k))*2^n))∧Hid (Below w.heap.size w wr)) (fun i _=>m - (intOf i).toNat)
 case atStart=>exact⟨0,Nat.zero_le _,rfl,by rw [Nat.mul_zero,Nat.pow_zero,Nat.mod_one,Nat.zero_mul];exact HO,(Below.refl _ _).alloc (Nat.le_refl _) _⟩
 case round=>
  clear HO hmk
  obtain⟨k,hk,rfl,HOwn,HB⟩:=hrel
  by_cases hlt:k<m
  ·have hc:wr.cell? ⟨g,k,none⟩=some (.int .u64 (dgt N k:Int)):=(HB.out.cell (p:=⟨g,k,none⟩) hg).trans (hrow.out k hlt)
   have h1:=HOwn.out.cell (i:=k+q) (by omega)
   have h2:=HOwn.out.cell (i:=k+q+1) (by omega)
   have f1:=HOwn.out.frozen (k+q)
   have f2:=HOwn.out.frozen (k+q+1)
   have b1:=aX ((N % 2^(32*k))*2^n) (k+q)
   have b2:=aX N k
   have HS:=fun D X (hD:D=dgt N k) (hX:X=D*2^r)=>uC HOwn.out HN.out hr1 hD hX (by omega)
   have HS:=aa HS
   generalize hA:dgt ((N % 2^(32*k))*2^n) (k+q)=A at h1 b1 HS
   generalize hE:dgt ((N % 2^(32*k))*2^n) (k+q+1)=E at h2
   generalize hD:dgt N k=D at hc b2
   have HD:=aa hD
   clear hA hE hD
   have hX:IntKind.u64.wrap ((D:Int)*2^r)=((D*2^r:Nat):Int):=by
    have e1:((D:Int)*2^r)=((D*2^r:Nat):Int):=by rw [Int.natCast_mul,Int.natCast_pow];rfl
    have h3:(2:Nat)^r≤2^31:=Nat.pow_le_pow_right (by decide) (by omega)
    have h4:D*2^r≤D*2^31:=Nat.mul_le_mul_left _ h3
    rw [e1,IntKind.wrap_u64];omega
   have hXb:D*2^r<9223372036854775808:=by
    have h3:(2:Nat)^r≤2^31:=Nat.pow_le_pow_right (by decide) (by omega)
    have h4:D*2^r≤D*2^31:=Nat.mul_le_mul_left _ h3
    omega
   generalize hXX:D*2^r=X at hX hXb
   have HXX:=aa hXX
   clear hXX
   go_wp2
   go_roundw
   case rel=>exact⟨k+1,by omega,by go_num,HS.out D X HD.out.symm HXX.out.symm,(HB.out.setCell (Nat.le_refl _) _).setCell (Nat.le_refl _) _⟩
   case measure=>simp [intOf];omega
  ·obtain rfl:k=m:=by omega
   have e:N % 2^(32*k)=N:=Nat.mod_eq_of_lt hN.out
   rw [e] at HOwn
   have hM:Hid (N*2^n<2^(32*(k+q+1))):=by
    show _<_
    have h1:N*2^n<2^(32*k)*2^n:=Nat.mul_lt_mul_of_pos_right hN.out (Nat.two_pow_pos _)
    rw [← Nat.pow_add] at h1
    refine Nat.lt_of_lt_of_le h1 (Nat.pow_le_pow_right (by decide) ?_)
    have:=HN.out;omega
   have hlt2:=HOwn.out.lt
   have HD:=aa (kq HOwn.out.row hM.out (Nat.le_refl _) hlt2)
   clear e
   go_wp2_with fail
   refine (cN _ _ _ _ _ HOwn.out.row hM.out (Nat.le_refl _) (by omega)).mono ?_
   rintro e w' ⟨rfl,rfl⟩
   go_wp2_with fail
   go_ret
   exact⟨_,rfl,HD.out,ft _ _ _ _ (Nat.le_refl _),HB.out⟩

theorem gf (v:Value) (N n:Nat) (w:World) (h:DN w v N) (hb:nd N≤10000000) (hn:n≤100000000) :
  Calls Tryz.prog 147 #[v,.int .i64 n] w fun e w'=>∃ v,e=.returned v∧DN w' v (N*2^n)∧From w.heap.size v∧Below w.heap.size w w':=by
 rcases h with⟨h0,p,c,rfl⟩| ⟨h0,g,c,rfl,hc,hg,hr⟩
 ·refine (rF p c n w).mono ?_
  rintro e w' ⟨rfl,rfl⟩
  exact⟨_,rfl,Or.inl ⟨by rw [h0,Nat.zero_mul],none,0,rfl⟩,iY _,Below.refl _ _⟩
 ·exact rG g c N (nd N) n (n / 32) (n % 32) w (dw h0) hb hn (by omega) (by omega) hr hg (cG N)
theorem ks (v:Value) (N n:Nat) (w:World) (h:DN w v N) (hb:nd N≤10000000) (hn:n≤100000000) :
  Calls Tryz.prog 147 #[v,.int .i64 n] w fun e w'=>∃ v,e=.returned v∧DN w' v (N*2^n)∧Below w.heap.size w w':=
 (gf v N n w h hb hn).mono fun _ _ ⟨v,a,b,_,d⟩=>⟨v,a,b,d⟩

end Go.Proofs.YtjjlnmihkadlmaaGreat
namespace Go.Proofs.YtjjlnmihkadlmaaGreat
open Go.RowKit

def fy (x y:Nat) (w:World):Nat:=(Question.nanBits .f64 x y).cut (w.tape w.drawn (.nanBits .f64 x y))
theorem fA (x y:Nat) (w:World):ag (fy x y w)=true∧fy x y w<18446744073709551616:=by
 unfold fy
 generalize w.tape w.drawn (.nanBits .f64 x y)=t
 show ag (((t % 2)*2^63+0x7ff0000000000000+1+(t / 2) % (2^52 - 1):Nat):Int)=true∧((t % 2)*2^63+0x7ff0000000000000+1+(t / 2) % (2^52 - 1):Nat)<_
 have h1:t % 2<2:=Nat.mod_lt _ (by decide)
 have h2:(t / 2) % (2^52 - 1)<2^52 - 1:=Nat.mod_lt _ (by decide)
 generalize t % 2=a at *
 generalize (t / 2) % (2^52 - 1)=b at *
 unfold ag szI
 refine⟨?_,by omega⟩
 rw [decide_eq_true_eq];omega
theorem dg {P:Program} (op:BinOp) (ho:op=.add∨op=.sub∨op=.mul∨op=.quo) (t:TypeId) (x y:Nat) (h:floatBits op .f64 x y=none) (w:World):(binOp op t (.float .f64 x) (.float .f64 y)).run P w=.ok (.float .f64 (fy x y w)) w.drew:=by
 rcases ho with rfl | rfl | rfl | rfl<;>unfold floatBits at h<;>simp only at h<;>simp [binOp,Op.floatArith,h,Question.forced,fy]
theorem dr {op:BinOp} {x y:Nat} (h:ag x=true):floatBits op .f64 x y=none:=by
 obtain⟨f,e⟩:=iS (iT h)
 unfold floatBits
 cases op<;>dsimp only<;>first | rfl | skip
 ·show ((Ieee.double.read x).sum (Ieee.double.read y)).map Ieee.double.write=_;rw [e];rfl
 ·show ((Ieee.double.read x).sum (Ieee.double.read y).opposite).map Ieee.double.write=_;rw [e];rfl
 ·show ((Ieee.double.read x).product (Ieee.double.read y)).map Ieee.double.write=_;rw [e];rfl
 ·show ((Ieee.double.read x).quotient 54 (Ieee.double.read y)).map Ieee.double.write=_;rw [e];rfl
theorem dH {op:BinOp} {x y:Nat} (h:ag y=true):floatBits op .f64 x y=none:=by
 obtain⟨f,e⟩:=iS (iT h)
 unfold floatBits
 cases op<;>dsimp only<;>first | rfl | skip
 ·show ((Ieee.double.read x).sum (Ieee.double.read y)).map Ieee.double.write=_;rw [e];cases Ieee.double.read x<;>rfl
 ·show ((Ieee.double.read x).sum (Ieee.double.read y).opposite).map Ieee.double.write=_;rw [e];cases Ieee.double.read x<;>rfl
 ·show ((Ieee.double.read x).product (Ieee.double.read y)).map Ieee.double.write=_;rw [e];cases Ieee.double.read x<;>rfl
 ·show ((Ieee.double.read x).quotient 54 (Ieee.double.read y)).map Ieee.double.write=_;rw [e];cases Ieee.double.read x<;>rfl

def Ag (o:Option Nat) (b:Nat):Prop:=match o with | some r=>b=r | none=>ag b=true∧b<18446744073709551616
theorem dh {r b:Nat} (h:Ag (some r) b):b=r:=h
theorem fB {b:Nat} (h:Ag none b):ag b=true∧b<18446744073709551616:=h
def el (x:Nat) (p:Option Nat) (c:Nat):Option Nat:=(p.bind fun p=>floatBits .mul .f64 p x).bind fun q=>floatBits .add .f64 q c
def hornAt (cs:List Nat) (x:Nat):Nat→Option Nat
 | 0=>some (cs.getD (cs.length - 1) 0)
 | i+1=>el x (hornAt cs x i) (cs.getD (cs.length - 2 - i) 0)
def aS (cs:List Nat) (x:Nat):Option Nat:=if cs.length=0 then some 0 else hornAt cs x (cs.length - 1)

theorem Ek {o:Option Nat} {a:Nat} (h:Ag o a) (op:BinOp) (x:Nat):(o.bind fun p=>floatBits op .f64 p x)=floatBits op .f64 a x:=by
 cases o with
 | some r=>rw [dh h];rfl
 | none=>rw [dr (fB h).1];rfl
theorem Bp {o:Option Nat} {a:Nat} (h:Ag o a) (x y:Nat):el x o y=(floatBits .mul .f64 a x).bind fun q=>floatBits .add .f64 q y:=by
 unfold el;rw [Ek h]
theorem lN {w wr:World} (h:∃ q,wr=w.drewN q):∃ q,wr.drew=w.drewN q:=by
 obtain⟨q,e⟩:=h;exact⟨q+1,by rw [e];rfl⟩

set_option maxHeartbeats 800000 in
theorem lO (p:Option Addr) (g off c x n:Nat) (cs:List Nat) (w:World) (hs:Src w p g off cs) (hN:cs.length=n) (hn:n≤1000000) :
  Calls Tryz.prog 202 #[.slice p n c,.float .f64 x] w fun e w'=>∃ r,e=.returned (.float .f64 r)∧Ag (aS cs x) r∧∃ q,w'=w.drewN q:=by
 have HS:=hideS hs
 have HN:=hideS hN
 by_cases h0:n=0
 ·subst h0
  have HR:Hid (aS cs x=some 0):=by show _=_;unfold aS;rw [if_pos hN]
  clear hs hN HS HN
  go_enter Tryz.func202,Tryz.ntmps202
  go_wp2
  go_ret
  exact⟨_,rfl,by rw [HR.out];rfl,0,rfl⟩
 obtain⟨m,rfl⟩:∃ m,n=m+1:=⟨n - 1,by omega⟩
 obtain rfl:=hs.at_ (by omega)
 have hc0:=hs.cell m (by omega)
 have HR:Hid (aS cs x=hornAt cs x m):=by show _=_;unfold aS;rw [if_neg (by omega),hN];rfl
 have HA0:Hid (hornAt cs x 0=some (cs.getD m 0)):=by show _=_;unfold hornAt;rw [hN];rfl
 have HA1:Hid (∀ i,hornAt cs x (i+1)=el x (hornAt cs x i) (cs.getD (m - 1 - i) 0)):=fun i=>by
  show el x (hornAt cs x i) (cs.getD (cs.length - 2 - i) 0)=_
  rw [hN];rfl
 generalize cs.getD m 0=p0 at hc0 HA0
 clear hs hN h0
 go_enter Tryz.func202,Tryz.ntmps202
 go_wp2_with fail
 go_loopw [6,19] (fun s i wr=>∃ k a:Nat,k≤m∧i=.int .i64 k∧s=.float .f64 a∧Hid (Ag (hornAt cs x k) a)∧Hid (∃ q,wr=w.drewN q)) (fun _ i _=>m - (intOf i).toNat)
 case atStart=>exact⟨0,p0,Nat.zero_le _,rfl,rfl,by rw [HA0.out];rfl,⟨0,rfl⟩⟩
 case round=>
  obtain⟨k,a,hk,rfl,rfl,HA,HQ⟩:=hrel
  by_cases hlt:k<m
  ·have hcx:wr.cell? ⟨g,off+(m - 1 - k),none⟩=some (.float .f64 (cs.getD (m - 1 - k) 0)):=by
    obtain⟨q,e⟩:=HQ.out
    rw [e];exact HS.out.cell (m - 1 - k) (by rw [HN.out];omega)
   have HA2:=hideS (HA1.out k)
   obtain⟨j,hj⟩:∃ j:Nat,m - 1 - k=j:=⟨_,rfl⟩
   have hj2:(m:Int) - 1 - k=j:=by omega
   rw [hj] at hcx HA2
   clear hj
   generalize cs.getD j 0=y at hcx HA2
   rw [Bp HA.out] at HA2
   clear HA HA1 HA0
   cases hq:floatBits .mul .f64 a x with
   | some q=>
    have r1:=fun w=>run_float_arith (P:=Tryz.prog) w .mul 54 .f64 a x q hq
    cases hr:floatBits .add .f64 q y with
    | some r=>
     have r2:=fun w=>run_float_arith (P:=Tryz.prog) w .add 54 .f64 q y r hr
     have HE:Hid (Ag (hornAt cs x (k+1)) r):=by rw [HA2.out,hq];show Ag (floatBits .add .f64 q y) r;rw [hr];rfl
     clear hq hr HA2
     go_wp2
     go_roundw
     case rel=>exact⟨k+1,r,by omega,by simp,rfl,HE,HQ⟩
     case measure=>simp [intOf];omega
    | none=>
     have r2:=dg (P:=Tryz.prog) .add (by simp) 54 q y hr
     have HE:Hid (∀ z,Ag (hornAt cs x (k+1)) (fy q y z)):=fun z=>by rw [HA2.out,hq];show Ag (floatBits .add .f64 q y) _;rw [hr];exact fA q y z
     clear hq hr HA2
     go_wp2
     go_roundw
     case rel=>exact⟨k+1,_,by omega,by simp,rfl,HE.out _,lN HQ.out⟩
     case measure=>simp [intOf];omega
   | none=>
    have r1:=dg (P:=Tryz.prog) .mul (by simp) 54 a x hq
    have r2:=fun z=>dg (P:=Tryz.prog) .add (by simp) 54 (fy a x z) y (dr (fA a x z).1)
    have HE:Hid (∀ z z',Ag (hornAt cs x (k+1)) (fy (fy a x z) y z')):=fun z z'=>by rw [HA2.out,hq];exact fA _ y z'
    clear hq HA2
    go_wp2
    go_roundw
    case rel=>exact⟨k+1,_,by omega,by simp,rfl,HE.out _ _,lN (lN HQ.out)⟩
    case measure=>simp [intOf];omega
  ·obtain rfl:k=m:=by omega
   go_wp2
   go_ret
   exact⟨_,rfl,by rw [HR.out];exact HA.out,HQ.out⟩
end Go.Proofs.YtjjlnmihkadlmaaGreat
namespace Go.Proofs.YtjjlnmihkadlmaaGreat
open Go.RowKit

theorem uU {s:Bool} {r:Nat} (h:r≤9218868437227405312):wrd s r<18446744073709551616:=by unfold wrd;split<;>omega
theorem write_lt (d:Ieee.Datum) (h:∀ s f,d≠.nan s f):Ieee.double.write d<18446744073709551616:=by
 cases d with
 | nan s f=>exact absurd rfl (h s f)
 | infinity s=>rw [show Ieee.double.write (.infinity s)=wrd s 9218868437227405312 by cases s<;>decide+kernel];exact uU (Nat.le_refl _)
 | number s m i=>
  show Ieee.double.nearest s m i<_
  by_cases h0:m=0
  ·rw [h0,bX,fv];exact uU (Nat.zero_le _)
  ·rw [bQ s h0,fv];exact uU (Nat.min_le_right _ _)
theorem Bt {a b d:Ieee.Datum} (h:a.sum b=some d):∀ s f,d≠.nan s f:=by
 intro s f e
 subst e
 cases a<;>cases b<;>simp [Ieee.Datum.sum] at h
theorem uW {a b d:Ieee.Datum} (h:a.product b=some d):∀ s f,d≠.nan s f:=by
 intro s f e
 subst e
 cases a<;>cases b<;>simp [Ieee.Datum.product] at h
theorem sb {a b d:Ieee.Datum} {k:Nat} (h:a.quotient k b=some d):∀ s f,d≠.nan s f:=by
 intro s f e
 subst e
 cases a<;>cases b<;>simp [Ieee.Datum.quotient] at h
 split at h
 ·split at h<;>cases h
 ·cases h
theorem qe {o:Option Ieee.Datum} {r:Nat} (ho:∀ d,o=some d→∀ s f,d≠.nan s f) (h:o.map Ieee.double.write=some r):r<18446744073709551616:=by
 cases o with
 | none=>cases h
 | some d=>
  have:Ieee.double.write d=r:=Option.some.inj h
  rw [← this];exact write_lt d (ho d rfl)
theorem jm {op:BinOp} (ho:op=.add∨op=.sub∨op=.mul∨op=.quo) {x y r:Nat} (h:floatBits op .f64 x y=some r):r<18446744073709551616:=by
 rcases ho with rfl | rfl | rfl | rfl
 ·exact qe (o:=(Ieee.double.read x).sum (Ieee.double.read y)) (fun d hd=>Bt hd) h
 ·exact qe (o:=(Ieee.double.read x).sum (Ieee.double.read y).opposite) (fun d hd=>Bt hd) h
 ·exact qe (o:=(Ieee.double.read x).product (Ieee.double.read y)) (fun d hd=>uW hd) h
 ·exact qe (o:=(Ieee.double.read x).quotient 54 (Ieee.double.read y)) (fun d hd=>sb hd) h
end Go.Proofs.YtjjlnmihkadlmaaGreat
namespace Go.Proofs.YtjjlnmihkadlmaaGreat
open Go.RowKit

def dC (v a b:Int):Int:=
 if ltB b a then (if ltB v b then b else if ltB a v then a else v)
 else if ltB a b then (if ltB v a then a else if ltB b v then b else v)
 else (if ltB v a then a else if ltB a v then a else v)
theorem ss {v a b:Int} (hv:U64 v) (ha:U64 a) (hb:U64 b):U64 (dC v a b):=by
 unfold dC
 (repeat' split)<;>assumption
theorem ax {u v:Int} (hu:ag u=false) (hv:ag v=false):ltB u v=decide (ae u<ae v):=by
 unfold ltB
 rw [hu,hv];simp
theorem Ex {v a b:Int} (hv:ag v=false) (ha:ag a=false) (hb:ag b=false) (h:ae a≤ae b):ag (dC v a b)=false∧ae a≤ae (dC v a b)∧ae (dC v a b)≤ae b:=by
 unfold dC
 rw [ax hb ha,ax hv hb,ax ha hv,ax ha hb,ax hv ha,ax hb hv]
 simp only [decide_eq_true_eq]
 rw [if_neg (by omega)]
 (repeat' split)<;>exact⟨by assumption,by omega,by omega⟩
theorem yx {v a b:Int} (hv:ag v=false) (ha:ag a=false) (hb:ag b=false) (h:ae b≤ae a):ag (dC v a b)=false∧ae b≤ae (dC v a b)∧ae (dC v a b)≤ae a:=by
 unfold dC
 rw [ax hb ha,ax hv hb,ax ha hv,ax ha hb,ax hv ha,ax hb hv]
 simp only [decide_eq_true_eq]
 (repeat' split)<;>exact⟨by assumption,by omega,by omega⟩
end Go.Proofs.YtjjlnmihkadlmaaGreat
namespace Go.Proofs.YtjjlnmihkadlmaaGreat
open Go.RowKit

def opO (op:BinOp) (a b:Option Nat):Option Nat:=a.bind fun a=>b.bind fun b=>floatBits op .f64 a b
theorem jV {op:BinOp} {o o':Option Nat} {a c:Nat} (h:Ag o a) (h':Ag o' c):opO op o o'=floatBits op .f64 a c:=by
 unfold opO
 cases o with
 | none=>rw [dr (fB h).1];rfl
 | some r=>
  rw [dh h]
  cases o' with
  | none=>rw [dH (fB h').1];rfl
  | some r'=>rw [dh h'];rfl
theorem dc (op:BinOp) (ho:op=.add∨op=.sub∨op=.mul∨op=.quo) (t:TypeId) (a c:Nat) (w:World):∃ r,(∃ q,(binOp op t (.float .f64 a) (.float .f64 c)).run Tryz.prog w=.ok (.float .f64 r) (w.drewN q))∧Ag (floatBits op .f64 a c) r:=by
 cases h:floatBits op .f64 a c with
 | some r=>exact⟨r,⟨0,run_float_arith (P:=Tryz.prog) w op t .f64 a c r h⟩,rfl⟩
 | none=>exact⟨_,⟨1,dg (P:=Tryz.prog) op ho t a c h w⟩,fA a c w⟩
end Go.Proofs.YtjjlnmihkadlmaaGreat
namespace Go.Proofs.YtjjlnmihkadlmaaGreat
open Go.RowKit

theorem bY (w:World) (kind:Int) (vx vy:Value):TBox w kind vx vy (w.alloc (.cells #[.int .i64 kind,vx,vy] 148)):=
 ⟨by simp,by simp,by simp,(Below.refl _ _).alloc (Nat.le_refl _) _,by simp⟩

end Go.Proofs.YtjjlnmihkadlmaaGreat
namespace Go.Proofs.YtjjlnmihkadlmaaGreat
open Go.RowKit

theorem be (m:Int):floatOfInt .f64 m=fi m:=by
 show Ieee.double.nearest (decide (m<0)) m.natAbs 0=_
 unfold fi aG
 by_cases h0:m=0
 ·subst h0;rfl
 ·rw [if_neg h0,bQ _ (by omega)]
  by_cases hn:m<0
  ·simp only [hn,decide_true,if_true];rw [gO]
  ·simp only [hn,decide_false,if_false];rw [iu]
theorem oM (P:Program) (w:World) (a:Addr) (x:Nat) (z:Value) (h:w.cell? a=some z) (hf:w.frozen? a=false):(store a (.float .f64 x)).run P w=.ok () (w.setCell a (.float .f64 x)):=by
 rw [run_store P w a _ _ rfl,h];simp [hf]
theorem sR:(Tryz.prog.info? 54).map (fun i=>(i.zero,i.size,i.bytes))=some (some (.float .f64 0),1,8):=by kernel_rfl

def expL:List Nat:=[4607182418800017408,4607182418800017408,4602678819172646912,4595172819793696085,4586165620538955093,4575957461383581969,4564047942368979991,4551452160554016794,4537941361671905306,4523617214285662004,4508805057796939612,4493156764026750180,4477122120089393304,4460272573143870729]
def lnL:List Nat:=[4607182418800017408,4599676419421066581,4596373779694328218,4594314991293244562,4592670820000712476,4591215111030249286,4590207312512236308,4589468260265693457,4588638185040256542,4587745830934523688,4587023449039406616]
def ic:Nat→Nat
 | 0=>1
 | k+1=>ic k*max k 1
theorem xu:∀ k,k<14→floatBits .quo .f64 4607182418800017408 (fi (ic (k+1):Int))=some (expL.getD k 0):=by decide+kernel
theorem Ck:∀ k,k<11→floatBits .quo .f64 4607182418800017408 (fi ((2*k+1:Nat):Int))=some (lnL.getD k 0):=by decide+kernel
theorem qA:∀ k,k<15→1≤ic k∧ic k≤6227020800:=by decide+kernel

def oN (w:World) (b n:Nat) (l:List Nat) (j:Nat):Prop:=w.rowIs b 54 n (fun i=>.float .f64 (if i<j then l.getD i 0 else 0))
theorem mw (w:World) (n:Nat) (l:List Nat):oN (w.alloc (.cells (madeCells #[.float .f64 0] n) 54)) w.heap.size n l 0:=
 (World.rowIs_made w (.float .f64 0) n 54).congr (fun i _=>by rw [if_neg (by omega)])
theorem mz {w:World} {b n j x:Nat} {l:List Nat} (h:oN w b n l j) (hx:x=l.getD j 0):oN (w.setCell ⟨b,j,none⟩ (.float .f64 x)) b n l (j+1):=by
 refine (h.set j (.float .f64 x)).congr fun i _=>?_
 by_cases c:i=j
 ·rw [if_pos c,if_pos (by omega),hx,c]
 ·rw [if_neg c]
  by_cases d:i<j
  ·rw [if_pos d,if_pos (by omega)]
  ·rw [if_neg d,if_neg (by omega)]
theorem oO {w:World} {b n:Nat} {l:List Nat} (h:oN w b n l n) (hn:l.length=n):Src w (some ⟨b,0,none⟩) b 0 l:=
 ⟨fun _=>rfl,fun _=>h.lt,fun j hj=>by
  rw [Nat.zero_add]
  have:=h.cell (i:=j) (by omega)
  rw [if_pos (by omega)] at this;exact this⟩

set_option maxHeartbeats 800000 in
theorem qB (w:World) :
  Calls Tryz.prog 203 #[] w fun e w'=>e=.returned (.slice (some ⟨w.heap.size,0,none⟩) 14 14)∧Src w' (some ⟨w.heap.size,0,none⟩) w.heap.size 0 expL∧Below w.heap.size w w':=by
 have hmk:=fun w=>run_make_row' (P:=Tryz.prog) 41 54 (.float .f64 0) 8 Tryz.underlying41 sR rfl .i64 .i64 14 (by omega) (by omega) w
 rw [show ((14:Nat):Int)=14 from rfl] at hmk
 have HO:=hideS (mw w 14 expL)
 go_enter Tryz.func203,Tryz.ntmps203
 go_wp2_with fail
 go_loopw [2,5] (fun s i wr=>∃ k f:Nat,k≤14∧i=.int .i64 k∧s=.int .i64 f∧Hid (f=ic k)∧Hid (oN wr w.heap.size 14 expL k)∧Hid (Below w.heap.size w wr)) (fun _ i _=>14 - (intOf i).toNat)
 case atStart=>exact⟨0,1,Nat.zero_le _,rfl,rfl,rfl,HO,(Below.refl _ _).alloc (Nat.le_refl _) _⟩
 case round=>
  clear HO hmk
  obtain⟨k,f,hk,rfl,rfl,HF,HH,HB⟩:=hrel
  by_cases hlt:k<14
  ·have hb:=qA k (by omega)
   have hb2:=qA (k+1) (by omega)
   rw [← HF.out] at hb
   have hdv:=xu k hlt
   obtain⟨f',hf'⟩:∃ f',ic (k+1)=f':=⟨_,rfl⟩
   have HF':Hid (f'=ic (k+1)):=hf'.symm
   rw [hf'] at hdv hb2
   have hmx:max (k:Int) 1=((max k 1:Nat):Int):=by omega
   have hml:(f:Int)*((max k 1:Nat):Int)=(f':Int):=by rw [← hf'];show _=((ic k*max k 1:Nat):Int);rw [HF.out,Int.natCast_mul]
   clear hf' HF
   generalize ((max k 1:Nat):Int)=mx at hmx hml
   obtain⟨x,hx⟩:∃ x,expL.getD k 0=x:=⟨_,rfl⟩
   have HX:Hid (x=expL.getD k 0):=hx.symm
   rw [hx] at hdv
   clear hx
   have hfo:=be (f':Int)
   have r1:=fun w=>run_float_arith (P:=Tryz.prog) w .quo 54 .f64 4607182418800017408 (fi (f':Int)) x hdv
   clear hdv
   generalize fi (f':Int)=y at hfo r1
   have hcz:=HH.out.cell (i:=k) hlt
   rw [if_neg (by omega)] at hcz
   have hfz:=HH.out.frozen k
   have hst:=oM Tryz.prog wr ⟨w.heap.size,k,none⟩ x _ hcz hfz
   go_wp2_with fail
   go_roundw
   case rel=>exact⟨k+1,f',by omega,by simp,rfl,HF',mz HH.out HX.out,HB.out.setCell (Nat.le_refl _) _⟩
   case measure=>simp [intOf];omega
  ·obtain rfl:k=14:=by omega
   have HS:=hideS (oO HH.out (by rfl))
   go_wp2_with fail
   go_ret
   exact⟨rfl,HS.out,HB.out⟩

set_option maxHeartbeats 800000 in
theorem sS (w:World) :
  Calls Tryz.prog 205 #[] w fun e w'=>e=.returned (.slice (some ⟨w.heap.size,0,none⟩) 11 11)∧Src w' (some ⟨w.heap.size,0,none⟩) w.heap.size 0 lnL∧Below w.heap.size w w':=by
 have hmk:=fun w=>run_make_row' (P:=Tryz.prog) 41 54 (.float .f64 0) 8 Tryz.underlying41 sR rfl .i64 .i64 11 (by omega) (by omega) w
 rw [show ((11:Nat):Int)=11 from rfl] at hmk
 have HO:=hideS (mw w 11 lnL)
 go_enter Tryz.func205,Tryz.ntmps205
 go_wp2_with fail
 go_loopw [4] (fun i wr=>∃ k:Nat,k≤11∧i=.int .i64 k∧Hid (oN wr w.heap.size 11 lnL k)∧Hid (Below w.heap.size w wr)) (fun i _=>11 - (intOf i).toNat)
 case atStart=>exact⟨0,Nat.zero_le _,rfl,HO,(Below.refl _ _).alloc (Nat.le_refl _) _⟩
 case round=>
  clear HO hmk
  obtain⟨k,hk,rfl,HH,HB⟩:=hrel
  by_cases hlt:k<11
  ·have hdv:=Ck k hlt
   have hml:(2:Int)*(k:Int)+1=((2*k+1:Nat):Int):=by omega
   obtain⟨m,hm⟩:∃ m:Int,((2*k+1:Nat):Int)=m:=⟨_,rfl⟩
   rw [hm] at hdv hml
   clear hm
   obtain⟨x,hx⟩:∃ x,lnL.getD k 0=x:=⟨_,rfl⟩
   have HX:Hid (x=lnL.getD k 0):=hx.symm
   rw [hx] at hdv
   clear hx
   have hfo:=be m
   have r1:=fun w=>run_float_arith (P:=Tryz.prog) w .quo 54 .f64 4607182418800017408 (fi m) x hdv
   clear hdv
   generalize fi m=y at hfo r1
   have hcz:=HH.out.cell (i:=k) hlt
   rw [if_neg (by omega)] at hcz
   have hfz:=HH.out.frozen k
   have hst:=oM Tryz.prog wr ⟨w.heap.size,k,none⟩ x _ hcz hfz
   go_wp2_with fail
   go_roundw
   case rel=>exact⟨k+1,by omega,by simp,mz HH.out HX.out,HB.out.setCell (Nat.le_refl _) _⟩
   case measure=>simp [intOf];omega
  ·obtain rfl:k=11:=by omega
   have HS:=hideS (oO HH.out (by rfl))
   go_wp2_with fail
   go_ret
   exact⟨rfl,HS.out,HB.out⟩
end Go.Proofs.YtjjlnmihkadlmaaGreat
namespace Go.Proofs.YtjjlnmihkadlmaaGreat
open Go.RowKit

end Go.Proofs.YtjjlnmihkadlmaaGreat
namespace Go.Proofs.YtjjlnmihkadlmaaGreat
open Go.RowKit

theorem fQ {b:Nat} (h:b<9218868437227405312):U64 (b:Int)∧ag (b:Int)=false∧ae (b:Int)=b:=by
 have h1:szI (b:Int)=b:=by unfold szI;omega
 have h2:ag (b:Int)=false:=by unfold ag;rw [h1];simp;omega
 have h3:sgB (b:Int)=false:=by simp [sgB];omega
 exact⟨by unfold U64;omega,h2,by rw [rank_pos h2 h3,h1]⟩
theorem Cl (neg:Bool) (n drop:Nat):Ieee.Toward.down.cut neg n drop=n / 2^drop+(if neg=true∧n % 2^drop≠0 then 1 else 0):=by
 show n / (1 <<< min drop (n.log2+2))+(neg&&n % (1 <<< min drop (n.log2+2)) !=0).toNat=_
 rw [Nat.one_shiftLeft]
 have key:n / 2^min drop (n.log2+2)=n / 2^drop∧n % 2^min drop (n.log2+2)=n % 2^drop:=by
  by_cases h:drop≤n.log2+2
  ·rw [Nat.min_eq_left h];exact⟨rfl,rfl⟩
  ·rw [Nat.min_eq_right (by omega)]
   have hl:n<2^(n.log2+1):=Nat.lt_log2_self
   have h1:(2:Nat)^(n.log2+1)≤2^(n.log2+2):=Nat.pow_le_pow_right (by decide) (by omega)
   have h2:(2:Nat)^(n.log2+2)≤2^drop:=Nat.pow_le_pow_right (by decide) (by omega)
   rw [Nat.div_eq_of_lt (by omega),Nat.div_eq_of_lt (by omega),Nat.mod_eq_of_lt (by omega),Nat.mod_eq_of_lt (by omega)]
   exact⟨rfl,rfl⟩
 rw [key.1,key.2]
 congr 1
 cases neg
 ·rfl
 ·by_cases h0:n % 2^drop=0
  ·rw [h0];rfl
  ·rw [if_pos ⟨rfl,h0⟩];simp [h0]
theorem yY (m p K:Nat):(m <<< (-(K:Int)+(p:Int)).toNat) / 2^(-(-(K:Int)+(p:Int))).toNat=m*2^p / 2^K∧((m <<< (-(K:Int)+(p:Int)).toNat) % 2^(-(-(K:Int)+(p:Int))).toNat=0↔m*2^p % 2^K=0):=by
 rw [Nat.shiftLeft_eq]
 by_cases h:p≤K
 ·have e1:(-(K:Int)+(p:Int)).toNat=0:=by omega
  have e2:(-(-(K:Int)+(p:Int))).toNat=K - p:=by omega
  have e3:(2:Nat)^K=2^(K - p)*2^p:=by rw [← Nat.pow_add,show K - p+p=K by omega]
  have hp:=Nat.two_pow_pos p
  rw [e1,e2,e3,Nat.pow_zero,Nat.mul_one,Nat.mul_div_mul_right _ _ hp,Nat.mul_mod_mul_right]
  refine⟨rfl,?_⟩
  constructor
  ·intro h;rw [h,Nat.zero_mul]
  ·intro h;rcases Nat.mul_eq_zero.1 h with h | h
   ·exact h
   ·omega
 ·have e1:(-(K:Int)+(p:Int)).toNat=p - K:=by omega
  have e2:(-(-(K:Int)+(p:Int))).toNat=0:=by omega
  have e3:(2:Nat)^p=2^(p - K)*2^K:=by rw [← Nat.pow_add,show p - K+K=p by omega]
  have hp:=Nat.two_pow_pos K
  rw [e1,e2,e3,Nat.pow_zero,Nat.div_one,Nat.mod_one,← Nat.mul_assoc,Nat.mul_div_cancel _ hp,Nat.mul_mod_left]
  exact⟨rfl,Iff.rfl⟩
theorem vE {b K:Nat} (hK:K=1074) (h:af b) (hz:b % 9223372036854775808≠0∨sB b=false) :
  ∃ k:Int,Ieee.double.write ((Ieee.double.read b).integral .down)=fi k∧k*((2^K:Nat):Int)≤vI b∧vI b<(k+1)*((2^K:Nat):Int):=by
 rw [au h]
 have hv:=ov b
 have hs:(b / 9223372036854775808 % 2==1)=sB b:=rfl
 have hm0:b % 9223372036854775808≠0→mg (b % 9223372036854775808)≠0:=fun h=>by unfold mg;split<;>omega
 rw [hs] at hv ⊢
 generalize b % 9223372036854775808=r at *
 generalize hm:mg r=m at *
 generalize pl r=p at *
 have hP:=Nat.two_pow_pos K
 have hp2:=Nat.two_pow_pos p
 obtain⟨c1,c2⟩:=yY m p K
 have key:∀ s,Ieee.double.write ((Ieee.Datum.number s m (-1074+(p:Int))).integral .down)=Ieee.double.nearest s (m*2^p / 2^K+(if s=true∧m*2^p % 2^K≠0 then 1 else 0)) 0:=fun s=>by
  show Ieee.double.nearest s (Ieee.Toward.down.cut s (m <<< (-1074+(p:Int)).toNat) (-(-1074+(p:Int))).toNat) 0=_
  have e:(-1074+(p:Int))= -(K:Int)+(p:Int):=by omega
  rw [Cl,e,c1]
  congr 2
  simp only [ne_eq,c2]
 rw [key]
 obtain⟨A,hA⟩:∃ A,m*2^p=A:=⟨_,rfl⟩
 obtain⟨P,hPP⟩:∃ P,2^K=P:=⟨_,rfl⟩
 rw [hA] at hv ⊢
 rw [hPP] at hP ⊢
 have hd:=Nat.div_add_mod A P
 have hlt:=Nat.mod_lt A hP
 generalize A / P=q at *
 generalize A % P=t at *
 clear key c1 c2
 cases hsb:sB b with
 | false=>
  rw [hsb] at hv
  refine⟨(q:Nat),?_,?_,?_⟩
  ·rw [if_neg (by simp),Nat.add_zero]
   unfold fi aG
   by_cases h0:q=0
   ·rw [h0,bX];rfl
   ·rw [bQ _ h0,iu,if_neg (by omega),if_neg (by omega),Int.natAbs_natCast]
  ·rw [hv];show ((q:Nat):Int)*(P:Int)≤(A:Int)
   rw [← Int.natCast_mul,Nat.mul_comm];omega
  ·rw [hv];show (A:Int)<(((q:Nat):Int)+1)*(P:Int)
   rw [Int.add_mul,← Int.natCast_mul,Nat.mul_comm];omega
 | true=>
  rw [hsb] at hv
  have hr0:r≠0:=by
   rcases hz with h | h
   ·exact h
   ·rw [hsb] at h;cases h
  have hA0:A≠0:=by rw [← hA];exact Nat.mul_ne_zero (hm0 hr0) (by omega)
  by_cases hr:t=0
  ·refine⟨-((q:Nat):Int),?_,?_,?_⟩
   ·rw [if_neg (by simp [hr]),Nat.add_zero]
    have h0:q≠0:=by
     intro h0;rw [h0,Nat.mul_zero] at hd;omega
    unfold fi aG
    rw [bQ _ h0,gO,if_neg (by omega),if_pos (by omega),Int.natAbs_neg,Int.natAbs_natCast]
   ·rw [hv];show -((q:Nat):Int)*(P:Int)≤-(A:Int)
    rw [Int.neg_mul,← Int.natCast_mul,Nat.mul_comm];omega
   ·rw [hv];show -(A:Int)<(-((q:Nat):Int)+1)*(P:Int)
    rw [Int.add_mul,Int.neg_mul,← Int.natCast_mul,Nat.mul_comm];omega
  ·refine⟨-((q+1:Nat):Int),?_,?_,?_⟩
   ·rw [if_pos ⟨rfl,hr⟩]
    unfold fi aG
    rw [bQ _ (by omega),gO,if_neg (by omega),if_pos (by omega),Int.natAbs_neg,Int.natAbs_natCast]
   ·rw [hv];show -((q+1:Nat):Int)*(P:Int)≤-(A:Int)
    rw [Int.neg_mul,← Int.natCast_mul,Nat.add_mul,Nat.mul_comm (q)];omega
   ·rw [hv];show -(A:Int)<(-((q+1:Nat):Int)+1)*(P:Int)
    rw [Int.add_mul,Int.neg_mul,← Int.natCast_mul,Nat.add_mul,Nat.mul_comm (q)];omega

theorem mA (b:Nat) (s:Bool) (m:Nat) (i:Int) (hd:FloatKind.f64.decode b=.number s m i):Extern.MathFloor.toIntegral "math.archFloor" .down #[.float .f64 b]=pure (.float .f64 (FloatKind.f64.encode ((Ieee.Datum.number s m i).integral .down))):=by
 conv=>lhs;whnf
 rw [hd]
theorem mB (b:Nat) (h:af b) (w:World):(callFunc 208 #[.float .f64 b]).run Tryz.prog w=.ok (.value (.float .f64 (Ieee.double.write ((Ieee.double.read b).integral .down)))) w:=by
 refine (run_callFunc_extern (e:=Extern.MathFloor.toIntegral "math.archFloor" .down) Tryz.func208 (by kernel_rfl) (by kernel_rfl) (by kernel_rfl) (by kernel_rfl) _ w).trans ?_
 have e:FloatKind.f64.decode b=_:=au h
 rw [mA b _ _ _ e,au h]
 rfl

set_option maxHeartbeats 800000 in
theorem Cm (b f:Nat) (w:World) (h:af b) (hf:Ieee.double.write ((Ieee.double.read b).integral .down)=f) :
  Calls Tryz.prog 200 #[.float .f64 b] w fun e w'=>e=.returned (.float .f64 f)∧w'=w:=by
 have h1:=mB b h
 rw [hf] at h1
 clear hf h
 go_enter Tryz.func200,Tryz.ntmps200
 go_wp2
 go_ret
 exact⟨rfl,rfl⟩
end Go.Proofs.YtjjlnmihkadlmaaGreat
namespace Go.Proofs.YtjjlnmihkadlmaaGreat

theorem qC {s:Bool} {r:Nat} (h:r<9218868437227405312):vI (wrd s r)=sgZ s (V r)∧af (wrd s r)∧wrd s r<18446744073709551616∧sB (wrd s r)=s:=by
 cases s
 ·have e:wrd false r=r:=rfl
  rw [e]
  refine⟨?_,?_,by omega,?_⟩
  ·rw [fx]
   unfold sB aV
   rw [show r / 9223372036854775808 % 2=0 by omega,show r % 9223372036854775808=r by omega];rfl
  ·unfold af;omega
  ·unfold sB;rw [show r / 9223372036854775808 % 2=0 by omega];rfl
 ·have e:wrd true r=9223372036854775808+r:=rfl
  rw [e]
  refine⟨?_,?_,by omega,?_⟩
  ·rw [fx]
   unfold sB aV
   rw [show (9223372036854775808+r) / 9223372036854775808 % 2=1 by omega,show (9223372036854775808+r) % 9223372036854775808=r by omega];rfl
  ·unfold af;omega
  ·unfold sB;rw [show (9223372036854775808+r) / 9223372036854775808 % 2=1 by omega];rfl
theorem jZ {T e:Int} (h:T≠0):aG T e=wrd (decide (T<0)) (nearR T.natAbs e):=by
 unfold aG wrd
 rw [if_neg h]
 by_cases hn:T<0
 ·rw [if_pos hn,if_pos (by simpa using hn)]
 ·rw [if_neg hn,if_neg (by simpa using hn)]
theorem vF {k:Nat} {T:Int}:sgZ (decide (T<0)) (V (nearR T.natAbs (-1074 - (k:Int))))=rI k T:=by
 unfold sgZ rI
 by_cases hn:T<0
 ·rw [if_pos (by simpa using hn),if_pos hn]
 ·rw [if_neg (by simpa using hn),if_neg hn]
theorem qE (k:Nat):rI k 0=0:=by
 unfold rI
 rw [if_neg (by decide),Int.natAbs_zero,iw (by omega),bu];rfl
theorem oP {x y:Nat} (hx:af x) (hy:af y) (hf:uP 0 (vI x+vI y)):∃ z,floatBits .add .f64 x y=some z∧af z∧z<18446744073709551616∧vI z=rI 0 (vI x+vI y):=by
 refine⟨_,jg hx hy,?_⟩
 unfold gl
 generalize vI x+vI y=T at *
 by_cases h0:T=0
 ·rw [if_pos h0,h0,qE]
  split
  ·exact⟨by unfold af;decide,by decide,by decide⟩
  ·exact⟨by unfold af;decide,by decide,by decide⟩
 ·rw [if_neg h0,jZ h0]
  have hf':nearR T.natAbs (-1074)<9218868437227405312:=hf
  obtain⟨a,b,c,_⟩:=qC (s:=decide (T<0)) hf'
  refine⟨b,c,?_⟩
  rw [a]
  exact vF (k:=0)
theorem yZ {x y:Nat} (hx:af x) (hy:af y) (hf:uP 0 (vI x - vI y)):∃ z,floatBits .sub .f64 x y=some z∧af z∧z<18446744073709551616∧vI z=rI 0 (vI x - vI y):=by
 refine⟨_,pX hx hy,?_⟩
 unfold gl
 generalize vI x - vI y=T at *
 by_cases h0:T=0
 ·rw [if_pos h0,h0,qE]
  split
  ·exact⟨by unfold af;decide,by decide,by decide⟩
  ·exact⟨by unfold af;decide,by decide,by decide⟩
 ·rw [if_neg h0,jZ h0]
  have hf':nearR T.natAbs (-1074)<9218868437227405312:=hf
  obtain⟨a,b,c,_⟩:=qC (s:=decide (T<0)) hf'
  refine⟨b,c,?_⟩
  rw [a]
  exact vF (k:=0)
theorem oQ (x:Nat):(vI x).natAbs=aV x:=by rw [fx];unfold sgZ;cases sB x<;>simp
theorem mC {x:Nat} (h:vI x≠0):decide (vI x<0)=sB x:=by
 rw [fx] at h ⊢
 unfold sgZ at *
 cases sB x
 ·simp
 ·simp only [if_true] at *;simp;omega
theorem Cn {a b:Int} (ha:a≠0) (hb:b≠0):(decide (a<0)^^decide (b<0))=decide (a*b<0):=by
 rcases Int.lt_or_lt_of_ne ha with pa | pa<;>rcases Int.lt_or_lt_of_ne hb with pb | pb
 ·have:=Int.mul_pos_of_neg_of_neg pa pb;simp [pa,pb];omega
 ·have:=Int.mul_neg_of_neg_of_pos pa pb;simp [pa,this];omega
 ·have:=Int.mul_neg_of_pos_of_neg pa pb;simp [pb,this];omega
 ·have:=Int.mul_pos pa pb
  rw [decide_eq_false (show ¬ a<0 by omega),decide_eq_false (show ¬ b<0 by omega),decide_eq_false (show ¬ a*b<0 by omega)];rfl
theorem oR {x y K:Nat} (hK:K=1074) (hx:af x) (hy:af y) (hf:uP K (vI x*vI y)):∃ z,floatBits .mul .f64 x y=some z∧af z∧z<18446744073709551616∧vI z=rI K (vI x*vI y):=by
 refine⟨_,gP hx hy,?_⟩
 unfold mulR
 rw [← oQ,← oQ,← Int.natAbs_mul]
 by_cases h0:vI x*vI y=0
 ·rw [h0,Int.natAbs_zero,if_pos rfl,qE]
  obtain⟨a,b,c,_⟩:=qC (s:=sB x^^sB y) (r:=0) (by decide)
  refine⟨b,c,?_⟩
  rw [a,bu];unfold sgZ;split<;>rfl
 ·have hx0:vI x≠0:=fun h=>h0 (by rw [h,Int.zero_mul])
  have hy0:vI y≠0:=fun h=>h0 (by rw [h,Int.mul_zero])
  rw [if_neg (by omega),← mC hx0,← mC hy0,Cn hx0 hy0]
  unfold uP at hf
  rw [show (-1074 - (K:Int))= -2148 by omega] at hf
  obtain⟨a,b,c,_⟩:=qC (s:=decide (vI x*vI y<0)) hf
  refine⟨b,c,?_⟩
  rw [a]
  have:=vF (k:=K) (T:=vI x*vI y)
  rw [show (-1074 - (K:Int))= -2148 by omega] at this
  exact this
end Go.Proofs.YtjjlnmihkadlmaaGreat
namespace Go.Proofs.YtjjlnmihkadlmaaGreat

theorem Co {q k:Nat} (hk1:4503599627370496≤k) (hk2:k<9007199254740992):mg (q*4503599627370496+k)=k∧pl (q*4503599627370496+k)=q:=by
 unfold mg pl
 rw [if_neg (by omega)]
 omega
theorem Cp {m E:Nat} (h:m<9007199254740992) (hE:52≤E) (hE2:E≤1900):Rep ((m*2^E:Nat):Int):=by
 by_cases h0:m=0
 ·subst h0;rw [Nat.zero_mul];exact Bn
 have a:=Nat.log2_self_le h0
 have b:m<2^(m.log2+1):=Nat.lt_log2_self
 have hl:m.log2<53:=(Nat.log2_lt h0).2 (by omega)
 generalize m.log2=l at a b hl
 obtain⟨k,hk⟩:∃ k,m*2^(52 - l)=k:=⟨_,rfl⟩
 have hk1:4503599627370496≤k:=by
  have:=Nat.mul_le_mul_right (2^(52 - l)) a
  rw [← Nat.pow_add,show l+(52 - l)=52 by omega,hk] at this;exact this
 have hk2:k<9007199254740992:=by
  have:=Nat.mul_lt_mul_of_pos_right b (Nat.two_pow_pos (52 - l))
  rw [← Nat.pow_add,show l+1+(52 - l)=53 by omega,hk] at this;exact this
 obtain⟨h1,h2⟩:=Co (q:=E+l - 52) hk1 hk2
 refine⟨(E+l - 52)*4503599627370496+k,by omega,?_⟩
 unfold V
 rw [h1,h2,Int.natAbs_natCast,← hk,Nat.mul_assoc,← Nat.pow_add,show 52 - l+(E+l - 52)=E by omega]
theorem mE {j:Int} {E:Nat} (h1: -9007199254740992<j) (h2:j<9007199254740992) (hE:52≤E) (hE2:E≤1900):Rep (j*((2^E:Nat):Int)):=by
 obtain⟨r,hr,e⟩:=Cp (m:=j.natAbs) (E:=E) (by omega) hE hE2
 refine⟨r,hr,?_⟩
 rw [Int.natAbs_natCast] at e
 rw [bC];exact e
theorem ka {k E:Nat} {T:Int} (hE:52≤E) (hE2:E≤1900) {G P:Int} (hG:G=((2^E:Nat):Int)) (hP:P=((2^k:Nat):Int)) (h1: -(2097152*(G*P))≤T) (h2:T≤2097152*(G*P)) :
  uP k T∧-(G*P)≤rI k T*P - T∧rI k T*P - T≤G*P:=by
 have hGp:0<G:=by rw [hG];have:=Nat.two_pow_pos E;omega
 have hPp:0<P:=by rw [hP];have:=Nat.two_pow_pos k;omega
 have hGP:0<G*P:=Int.mul_pos hGp hPp
 obtain⟨j,hj⟩:∃ j,T / (G*P)=j:=⟨_,rfl⟩
 have e1:j*(G*P)≤T:=by rw [← hj];exact Int.ediv_mul_le T (by omega)
 have e2:T<(j+1)*(G*P):=by rw [← hj];exact Int.lt_ediv_add_one_mul_self T hGP
 have j1: -2097152≤j:=by
  rw [← hj]
  refine (Int.le_ediv_iff_mul_le hGP).2 ?_
  rw [Int.neg_mul];exact h1
 have j2:j≤2097152:=by
  by_cases h:2097152<j
  ·have:=Int.mul_lt_mul_of_pos_right h hGP
   omega
  ·omega
 have rA:Rep (j*G):=by rw [hG];exact mE (by omega) (by omega) hE hE2
 have rB:Rep ((j+1)*G):=by rw [hG];exact mE (by omega) (by omega) hE hE2
 have f1:j*G*((2^k:Nat):Int)≤T:=by rw [← hP,Int.mul_assoc];exact e1
 have f2:T≤(j+1)*G*((2^k:Nat):Int):=by rw [← hP,Int.mul_assoc];omega
 have a1:=lM rA f1
 have a2:=jh rB f2
 have b1:=Int.mul_le_mul_of_nonneg_right a1 (show 0≤P by omega)
 have b2:=Int.mul_le_mul_of_nonneg_right a2 (show 0≤P by omega)
 rw [Int.mul_assoc] at b1 b2
 have e3:(j+1)*(G*P)=j*(G*P)+G*P:=by rw [Int.add_mul,Int.one_mul]
 rw [e3] at e2 b2
 exact⟨uQ rA rB f1 f2,by omega,by omega⟩

structure Scale (K:Nat) (g:Int):Prop where
 k:K=1074
 pos:0<g
 unit:((2^K:Nat):Int)=1267650600228229401496703205376*g
 grid:((2^1064:Nat):Int)=1237940039285380274899124224*g
 at_:∀ q p:Nat,q+974=p→((2^p:Nat):Int)=((2^q:Nat):Int)*g
theorem kc {a b c:Nat} (h:a+b=c):((2^c:Nat):Int)=((2^a:Nat):Int)*((2^b:Nat):Int):=by
 subst h;rw [Nat.pow_add,Int.natCast_mul]
theorem Ia:∃ K g,Scale K g:=by
 obtain⟨e,he⟩:∃ e,e=974:=⟨_,rfl⟩
 obtain⟨K,hK⟩:∃ K,K=1074:=⟨_,rfl⟩
 obtain⟨L,hL⟩:∃ L,L=1064:=⟨_,rfl⟩
 refine⟨K,((2^e:Nat):Int),hK,by have:=Nat.two_pow_pos e;omega,?_,?_,fun q p h=>kc (by omega)⟩
 ·rw [kc (a:=100) (b:=e) (c:=K) (by omega)];rfl
 ·rw [← hL,kc (a:=90) (b:=e) (c:=L) (by omega)];rfl

theorem Cq {K:Nat} {g:Int} (hs:Scale K g) {x y:Nat} (hx:af x) (hy:af y) (h1: -(2596148429267413814265248164610048*g)≤vI x+vI y) (h2:vI x+vI y≤2596148429267413814265248164610048*g) :
  ∃ z,floatBits .add .f64 x y=some z∧af z∧z<18446744073709551616∧-(1237940039285380274899124224*g)≤vI z - (vI x+vI y)∧vI z - (vI x+vI y)≤1237940039285380274899124224*g:=by
 obtain⟨E,hE⟩:∃ E,E=1064:=⟨_,rfl⟩
 have hg:=hs.grid
 rw [← hE] at hg
 obtain⟨f,a,b⟩:=ka (k:=0) (E:=E) (T:=vI x+vI y) (by omega) (by omega) (P:=1) rfl rfl (by rw [hg];omega) (by rw [hg];omega)
 obtain⟨z,z1,z2,z3,z4⟩:=oP hx hy f
 rw [hg] at a b
 rw [← z4] at a b
 exact⟨z,z1,z2,z3,by omega,by omega⟩
theorem sT {K:Nat} {g:Int} (hs:Scale K g) {x y:Nat} (hx:af x) (hy:af y) (h1: -(2596148429267413814265248164610048*g)≤vI x - vI y) (h2:vI x - vI y≤2596148429267413814265248164610048*g) :
  ∃ z,floatBits .sub .f64 x y=some z∧af z∧z<18446744073709551616∧-(1237940039285380274899124224*g)≤vI z - (vI x - vI y)∧vI z - (vI x - vI y)≤1237940039285380274899124224*g:=by
 obtain⟨E,hE⟩:∃ E,E=1064:=⟨_,rfl⟩
 have hg:=hs.grid
 rw [← hE] at hg
 obtain⟨f,a,b⟩:=ka (k:=0) (E:=E) (T:=vI x - vI y) (by omega) (by omega) (P:=1) rfl rfl (by rw [hg];omega) (by rw [hg];omega)
 obtain⟨z,z1,z2,z3,z4⟩:=yZ hx hy f
 rw [hg] at a b
 rw [← z4] at a b
 exact⟨z,z1,z2,z3,by omega,by omega⟩
theorem mF {K:Nat} {g:Int} (hs:Scale K g) {x y:Nat} {c:Int} (hx:af x) (hy:af y) (hc:vI y=c*g) (h1: -(3291009114642412084309938365114701009965471731267159726697218048*g)≤c*vI x) (h2:c*vI x≤3291009114642412084309938365114701009965471731267159726697218048*g) :
  ∃ z,floatBits .mul .f64 x y=some z∧af z∧z<18446744073709551616∧-(1569275433846670190958947355801916604025588861116008628224*g)≤1267650600228229401496703205376*vI z - c*vI x∧1267650600228229401496703205376*vI z - c*vI x≤1569275433846670190958947355801916604025588861116008628224*g:=by
 obtain⟨E,hE⟩:∃ E,E=1064:=⟨_,rfl⟩
 have hg:=hs.grid
 rw [← hE] at hg
 have hgp:=hs.pos
 have eT:vI x*vI y=(c*vI x)*g:=by rw [hc,← Int.mul_assoc,Int.mul_comm (vI x) c]
 have eGP:((2^E:Nat):Int)*((2^K:Nat):Int)=(1569275433846670190958947355801916604025588861116008628224*g)*g:=by
  rw [hg,hs.unit,← Int.mul_assoc,show (1237940039285380274899124224*g*1267650600228229401496703205376:Int)=1569275433846670190958947355801916604025588861116008628224*g by omega]
 have b1:=Int.mul_le_mul_of_nonneg_right h1 (show 0≤g by omega)
 have b2:=Int.mul_le_mul_of_nonneg_right h2 (show 0≤g by omega)
 have e3:(2097152:Int)*(1569275433846670190958947355801916604025588861116008628224*g*g)=3291009114642412084309938365114701009965471731267159726697218048*g*g:=by rw [← Int.mul_assoc,← Int.mul_assoc];rfl
 rw [Int.neg_mul] at b1
 obtain⟨f,a,b⟩:=ka (k:=K) (E:=E) (T:=vI x*vI y) (by omega) (by omega) rfl rfl (by rw [eGP,e3,eT];exact b1) (by rw [eGP,e3,eT];exact b2)
 obtain⟨z,z1,z2,z3,z4⟩:=oR hs.k hx hy f
 rw [eGP,eT,← eT,← z4,eT,hs.unit,← Int.mul_assoc,Int.mul_comm (vI z),← Int.sub_mul] at a b
 refine⟨z,z1,z2,z3,?_,?_⟩
 ·rw [← Int.neg_mul] at a
  exact Int.le_of_mul_le_mul_right a hgp
 ·exact Int.le_of_mul_le_mul_right b hgp
end Go.Proofs.YtjjlnmihkadlmaaGreat
