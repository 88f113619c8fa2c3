/-  -/
import Derived.Test.YtbokkedmfolfdaaGreatHaj
import Derived.WalkKit
import Derived.LoopTactic
import Derived.BigCall
import Derived.BigQuiet
import Derived.Maps.AppendAt
import Derived.Laws.OwnMore
import Derived.Deep.OwnRows
import Derived.Test.YtbokkedmfolfdaaGreatHah
import Derived.Test.YtbokkedmfolfdaaGreatFlt
namespace Go.Proofs.YtbokkedmfolfdaaGreat
open Go.RowKit

theorem hideS {p:Prop} (h:p):Hid p:=h
theorem turned {P:Program} {f:Nat} {args:Array Value} {w:World} {Q:Ending→Prop} (h:Calls P f args w fun e w'=>Q e∧w'=w):Calls P f args w fun e w'=>Q e∧w=w':=
 h.mono fun _ _ ⟨a,b⟩=>⟨a,b.symm⟩
theorem infoU:(Tryz.prog.info? 39).map (fun i=>(i.zero,i.size,i.bytes))=some (some (.int .u64 0),1,8):=by kernel_rfl
theorem own_below {w w':World} {B e size n:Nat} {v:Value} {xs:List Value} (h:w.ownsRow B e size v n xs) (hb:Below w.heap.size w w'):w'.ownsRow B e size v n xs:=by
 refine⟨h.1,?_⟩
 rcases h.2 with hn | ⟨g,cap,cur,rfl,hg,hgg,rest⟩
 ·exact .inl hn
 ·exact .inr ⟨g,cap,cur,rfl,hg,by rw [hb.block g (Array.getElem?_eq_some_iff.1 hgg).1];exact hgg,rest⟩

def uV (x:Nat):Value:=.int .u64 (x:Int)
def fV (x:Nat):Value:=.float .f64 x
theorem getD_some {l:List Nat} {i:Nat} (hi:i<l.length):l[i]? =some (l.getD i 0):=by simp [List.getD,List.getElem?_eq_getElem hi]
structure Src (w:World) (p:Option Addr) (b off:Nat) (xs:List Nat):Prop where
 at_:0<xs.length→p=some ⟨b,off,none⟩
 lt:0<xs.length→b<w.heap.size
 cell:∀ j,j<xs.length→w.cell? ⟨b,off+j,none⟩=some (.float .f64 (xs.getD j 0))
theorem Src.below {w w':World} {p:Option Addr} {b off:Nat} {xs:List Nat} (h:Src w p b off xs) (hb:Below w.heap.size w w'):Src w' p b off xs:=
 ⟨h.at_,fun hx=>Nat.lt_of_lt_of_le (h.lt hx) hb.size,fun j hj=>(hb.cell (p:=⟨b,off+j,none⟩) (h.lt (by omega))).trans (h.cell j hj)⟩

structure OwnF (w:World) (B t:Nat) (f:Nat→Value) (v:Value) (xs:List Nat):Prop where
 own:w.ownsRow B t 1 v xs.length (xs.map f)
theorem OwnF.below {w w':World} {B t:Nat} {f:Nat→Value} {v:Value} {xs:List Nat} (h:OwnF w B t f v xs) (hb:Below w.heap.size w w'):OwnF w' B t f v xs:=⟨own_below h.own hb⟩
end Go.Proofs.YtbokkedmfolfdaaGreat
namespace Go.Proofs.YtbokkedmfolfdaaGreat
open Go.RowKit

def ltB (u v:Int):Bool:=!af u&&!af v&&decide (aa u<aa v)
def aD (u:Int):Bool:=decide (szI u<9218868437227405312)
end Go.Proofs.YtbokkedmfolfdaaGreat
namespace Go.Proofs.YtbokkedmfolfdaaGreat
open Go.RowKit

def dl (kind:Int) (xs:List Int) (ys:List Nat) (i:Nat):Bool:=
 decide (xs.getD i 0<0)||decide (109572<xs.getD i 0)||(decide (0<i)&&decide (xs.getD i 0≤xs.getD (i - 1) 0))||!aD (ys.getD i 0:Nat)||(decide (kind=4)&&!ltB 0 (ys.getD i 0:Nat))
structure OkT (kind:Int) (xs:List Int) (ys:List Nat):Prop where
 k1:1≤kind
 k4:kind≤4
 lo:1≤xs.length
 hi:xs.length≤256
 len:ys.length=xs.length
 node:∀ i<xs.length,dl kind xs ys i=false
inductive TabR (kind:Int) (xs:List Int) (ys:List Nat):Int→Prop
 | ok (h:OkT kind xs ys):TabR kind xs ys 0
 | kind (h:kind<1∨4<kind):TabR kind xs ys 90
 | len (h1:1≤kind) (h4:kind≤4) (h:xs.length<1∨256<xs.length∨ys.length≠xs.length):TabR kind xs ys 100
 | node (h1:1≤kind) (h4:kind≤4) (lo:1≤xs.length) (hi:xs.length≤256) (len:ys.length=xs.length) (K:Nat) (hK:K<xs.length) (bad:dl kind xs ys K=true) (fine:∀ i<K,dl kind xs ys i=false):TabR kind xs ys 100
theorem bW {p:Nat→Bool}:∀ N,(∃ i<N,p i=true)→∃ k<N,p k=true∧∀ j<k,p j=false
 | 0,⟨i,hi,_⟩=>by omega
 | N+1,⟨i,hi,hp⟩=>by
  by_cases h:∃ i<N,p i=true
  ·obtain⟨k,hk,h1,h2⟩:=bW N h
   exact⟨k,by omega,h1,h2⟩
  ·have hN:i=N:=Classical.byContradiction fun c=>h ⟨i,by omega,hp⟩
   subst hN
   exact⟨i,by omega,hp,fun j hj=>by
    cases hc:p j
    ·rfl
    ·exact absurd ⟨j,hj,hc⟩ h⟩
theorem vD (kind:Int) (xs:List Int) (ys:List Nat):∃ E,TabR kind xs ys E:=by
 by_cases hk:kind<1∨4<kind
 ·exact⟨90,.kind hk⟩
 ·by_cases hl:xs.length<1∨256<xs.length∨ys.length≠xs.length
  ·exact⟨100,.len (by omega) (by omega) hl⟩
  ·by_cases hb:∃ i<xs.length,dl kind xs ys i=true
   ·obtain⟨K,hK,h1,h2⟩:=bW _ hb
    exact⟨100,.node (by omega) (by omega) (by omega) (by omega) (by omega) K hK h1 h2⟩
   ·exact⟨0,.ok ⟨by omega,by omega,by omega,by omega,by omega,fun i hi=>by
     cases hc:dl kind xs ys i
     ·rfl
     ·exact absurd ⟨i,hi,hc⟩ hb⟩⟩
theorem ap {kind:Int} {xs:List Int} {ys:List Nat} {i:Nat} (h:dl kind xs ys i=false):0≤xs.getD i 0∧xs.getD i 0≤109572∧(0<i→xs.getD (i - 1) 0<xs.getD i 0)∧aD (ys.getD i 0:Nat)=true∧(kind=4→ltB 0 (ys.getD i 0:Nat)=true):=by
 unfold dl at h
 simp only [Bool.or_eq_false_iff,Bool.and_eq_false_iff,decide_eq_false_iff_not,Bool.not_eq_false'] at h
 obtain⟨⟨⟨⟨a,b⟩,c⟩,d⟩,e⟩:=h
 refine⟨by omega,by omega,fun hi=>?_,d,fun hk=>?_⟩
 ·rcases c with c | c<;>omega
 ·rcases e with e | e
  ·exact absurd hk e
  ·exact e
theorem OkT.step {kind:Int} {xs:List Int} {ys:List Nat} (h:OkT kind xs ys) {i:Nat} (hi:i+1<xs.length):xs.getD i 0<xs.getD (i+1) 0:=by
 have:=(ap (h.node (i+1) hi)).2.2.1 (by omega)
 simpa using this
theorem OkT.rise {kind:Int} {xs:List Int} {ys:List Nat} (h:OkT kind xs ys) {i j:Nat} (hij:i<j) (hj:j<xs.length):xs.getD i 0<xs.getD j 0:=by
 obtain⟨d,rfl⟩:∃ d,j=i+1+d:=⟨j - i - 1,by omega⟩
 induction d with
 | zero=>exact h.step (by omega)
 | succ d ih=>
  have a:=ih (by omega) (by omega)
  have b:=h.step (i:=i+1+d) (by omega)
  exact Int.lt_trans a b
structure FindR (xs:List Int) (x:Int) (k:Nat):Prop where
 lt:k<xs.length
 le:xs.getD k 0≤x
 gt:k+1<xs.length→x<xs.getD (k+1) 0
theorem vE {xs:List Int} {x:Int} (hlo:0<xs.length) (h0:xs.getD 0 0≤x):∃ k,FindR xs x k∧∀ j<k,j+1<xs.length∧xs.getD (j+1) 0≤x:=by
 by_cases hb:∃ i<xs.length,decide (i+1<xs.length→x<xs.getD (i+1) 0)=true
 ·obtain⟨k,hk,h1,h2⟩:=bW (p:=fun i=>decide (i+1<xs.length→x<xs.getD (i+1) 0)) _ hb
  have h3:∀ j<k,j+1<xs.length∧xs.getD (j+1) 0≤x:=fun j hj=>by
   have:=h2 j hj
   rw [decide_eq_false_iff_not] at this
   obtain⟨a,b⟩:=Classical.not_imp.1 this
   exact⟨a,by omega⟩
  refine⟨k,⟨hk,?_,of_decide_eq_true h1⟩,h3⟩
  by_cases hz:k=0
  ·rw [hz];exact h0
  ·have:=(h3 (k - 1) (by omega)).2
   rwa [show k - 1+1=k by omega] at this
 ·exact absurd ⟨xs.length - 1,by omega,decide_eq_true (fun c=>by omega)⟩ hb
end Go.Proofs.YtbokkedmfolfdaaGreat
namespace Go.Proofs.YtbokkedmfolfdaaGreat
open Go.RowKit

structure VSrc (w:World) (p:Option Addr) (b off n:Nat) (f:Nat→Value):Prop where
 at_:0<n→p=some ⟨b,off,none⟩
 lt:0<n→b<w.heap.size
 cell:∀ j<n,w.cell? ⟨b,off+j,none⟩=some (f j)
theorem VSrc.below {w w':World} {p:Option Addr} {b off n:Nat} {f:Nat→Value} (h:VSrc w p b off n f) (hb:Below w.heap.size w w'):VSrc w' p b off n f:=
 ⟨h.at_,fun hx=>Nat.lt_of_lt_of_le (h.lt hx) hb.size,fun j hj=>(hb.cell (p:=⟨b,off+j,none⟩) (h.lt (by omega))).trans (h.cell j hj)⟩
def xV (xs:List Int) (j:Nat):Value:=.int .i64 (xs.getD j 0)
def yV (ys:List Nat) (j:Nat):Value:=.int .u64 (ys.getD j 0:Nat)
def flV (ys:List Nat) (j:Nat):Value:=.float .f64 (ys.getD j 0)
structure TBox (w:World) (kind:Int) (vx vy:Value) (wr:World):Prop where
 t0:wr.cell? ⟨w.heap.size,0,none⟩=some (.int .i64 kind)
 t1:wr.cell? ⟨w.heap.size,1,none⟩=some vx
 t2:wr.cell? ⟨w.heap.size,2,none⟩=some vy
 bl:Below w.heap.size w wr
 lt:w.heap.size<wr.heap.size
theorem TBox.step {w wr w':World} {kind:Int} {vx vy:Value} (h:TBox w kind vx vy wr) (hb:Below wr.heap.size wr w'):TBox w kind vx vy w':=
 ⟨(hb.cell (p:=⟨w.heap.size,0,none⟩) h.lt).trans h.t0,(hb.cell (p:=⟨w.heap.size,1,none⟩) h.lt).trans h.t1,(hb.cell (p:=⟨w.heap.size,2,none⟩) h.lt).trans h.t2,h.bl.trans (hb.mono h.bl.size),Nat.lt_of_lt_of_le h.lt hb.size⟩
end Go.Proofs.YtbokkedmfolfdaaGreat
namespace Go.Proofs.YtbokkedmfolfdaaGreat
open Go.RowKit

end Go.Proofs.YtbokkedmfolfdaaGreat
namespace Go.Proofs.YtbokkedmfolfdaaGreat
open Go.RowKit

structure TSrc (w:World) (px py:Option Addr) (bx ox b2 oy:Nat) (xs:List Int) (ys:List Nat):Prop where
 x:VSrc w px bx ox xs.length (xV xs)
 y:VSrc w py b2 oy ys.length (yV ys)
 f:∀ i<ys.length,U64 (ys.getD i 0:Nat)
theorem TSrc.below {w w':World} {px py:Option Addr} {bx ox b2 oy:Nat} {xs:List Int} {ys:List Nat} (h:TSrc w px py bx ox b2 oy xs ys) (hb:Below w.heap.size w w'):TSrc w' px py bx ox b2 oy xs ys:=⟨h.x.below hb,h.y.below hb,h.f⟩
inductive FindO (kind:Int) (xs:List Int) (ys:List Nat) (x:Int):Int→Int→Prop
 | bad (E:Int) (h:TabR kind xs ys E) (hE:E≠0):FindO kind xs ys x 0 E
 | out (h:OkT kind xs ys) (hx:x<xs.getD 0 0∨xs.getD (xs.length - 1) 0<x):FindO kind xs ys x 0 51
 | at_ (h:OkT kind xs ys) (hlo:xs.getD 0 0≤x) (hhi:x≤xs.getD (xs.length - 1) 0) (k:Nat) (hk:FindR xs x k) (hj:∀ j<k,j+1<xs.length∧xs.getD (j+1) 0≤x):FindO kind xs ys x (k:Int) 0
theorem oY {kind:Int} {xs:List Int} {ys:List Nat} (h:TabR kind xs ys 0):OkT kind xs ys:=by
 generalize hE:(0:Int)=E at h
 cases h with
 | ok h=>exact h
 | kind h=>cases hE
 | len h1 h4 h=>cases hE
 | node=>cases hE
theorem sv (kind:Int) (xs:List Int) (ys:List Nat) (x:Int):∃ k E,FindO kind xs ys x k E:=by
 obtain⟨E,h⟩:=vD kind xs ys
 by_cases hE:E=0
 ·subst hE
  have ok:=oY h
  by_cases hx:x<xs.getD 0 0∨xs.getD (xs.length - 1) 0<x
  ·exact⟨_,_,.out ok hx⟩
  ·obtain⟨k,hk,hj⟩:=vE (x:=x) ok.lo (by omega)
   exact⟨_,_,.at_ ok (by omega) (by omega) k hk hj⟩
 ·exact⟨_,_,.bad E h hE⟩

end Go.Proofs.YtbokkedmfolfdaaGreat
namespace Go.Proofs.YtbokkedmfolfdaaGreat
open Go.RowKit

def Own (w:World) (b n M:Nat):Prop:=w.rowIs b 39 n (fun i=>.int .u64 (dgt M i:Int))
theorem Own.row {w:World} {b n M:Nat} (h:Own w b n M):RowIs w b n M:=fun _ hi=>h.cell hi
end Go.Proofs.YtbokkedmfolfdaaGreat
namespace Go.Proofs.YtbokkedmfolfdaaGreat
open Go.RowKit

def cV (x y:Nat) (w:World):Nat:=(Question.nanBits .f64 x y).cut (w.tape w.drawn (.nanBits .f64 x y))
theorem cW (x y:Nat) (w:World):af (cV x y w)=true∧cV x y w<18446744073709551616:=by
 unfold cV
 generalize w.tape w.drawn (.nanBits .f64 x y)=t
 show af (((t % 2)*2^63+0x7ff0000000000000+1+(t / 2) % (2^52 - 1):Nat):Int)=true∧((t % 2)*2^63+0x7ff0000000000000+1+(t / 2) % (2^52 - 1):Nat)<_
 have h1:t % 2<2:=Nat.mod_lt _ (by decide)
 have h2:(t / 2) % (2^52 - 1)<2^52 - 1:=Nat.mod_lt _ (by decide)
 generalize t % 2=a at *
 generalize (t / 2) % (2^52 - 1)=b at *
 unfold af szI
 refine⟨?_,by omega⟩
 rw [decide_eq_true_eq];omega
theorem bQ {P:Program} (op:BinOp) (ho:op=.add∨op=.sub∨op=.mul∨op=.quo) (t:TypeId) (x y:Nat) (h:floatBits op .f64 x y=none) (w:World):(binOp op t (.float .f64 x) (.float .f64 y)).run P w=.ok (.float .f64 (cV x y w)) w.drew:=by
 rcases ho with rfl | rfl | rfl | rfl<;>unfold floatBits at h<;>simp only at h<;>simp [binOp,Op.floatArith,h,Question.forced,cV]
theorem hU {op:BinOp} {x y:Nat} (h:af x=true):floatBits op .f64 x y=none:=by
 obtain⟨f,e⟩:=eC (eD h)
 unfold floatBits
 cases op<;>dsimp only<;>first | rfl | skip
 ·show ((Ieee.double.read x).sum (Ieee.double.read y)).map Ieee.double.write=_;rw [e];rfl
 ·show ((Ieee.double.read x).sum (Ieee.double.read y).opposite).map Ieee.double.write=_;rw [e];rfl
 ·show ((Ieee.double.read x).product (Ieee.double.read y)).map Ieee.double.write=_;rw [e];rfl
 ·show ((Ieee.double.read x).quotient 54 (Ieee.double.read y)).map Ieee.double.write=_;rw [e];rfl
theorem jI {op:BinOp} {x y:Nat} (h:af y=true):floatBits op .f64 x y=none:=by
 obtain⟨f,e⟩:=eC (eD h)
 unfold floatBits
 cases op<;>dsimp only<;>first | rfl | skip
 ·show ((Ieee.double.read x).sum (Ieee.double.read y)).map Ieee.double.write=_;rw [e];cases Ieee.double.read x<;>rfl
 ·show ((Ieee.double.read x).sum (Ieee.double.read y).opposite).map Ieee.double.write=_;rw [e];cases Ieee.double.read x<;>rfl
 ·show ((Ieee.double.read x).product (Ieee.double.read y)).map Ieee.double.write=_;rw [e];cases Ieee.double.read x<;>rfl
 ·show ((Ieee.double.read x).quotient 54 (Ieee.double.read y)).map Ieee.double.write=_;rw [e];cases Ieee.double.read x<;>rfl

def Ag (o:Option Nat) (b:Nat):Prop:=match o with | some r=>b=r | none=>af b=true∧b<18446744073709551616
theorem bq {r b:Nat} (h:Ag (some r) b):b=r:=h
theorem bV {b:Nat} (h:Ag none b):af b=true∧b<18446744073709551616:=h
def dS (x:Nat) (p:Option Nat) (c:Nat):Option Nat:=(p.bind fun p=>floatBits .mul .f64 p x).bind fun q=>floatBits .add .f64 q c
def hornAt (cs:List Nat) (x:Nat):Nat→Option Nat
 | 0=>some (cs.getD (cs.length - 1) 0)
 | i+1=>dS x (hornAt cs x i) (cs.getD (cs.length - 2 - i) 0)
def bC (cs:List Nat) (x:Nat):Option Nat:=if cs.length=0 then some 0 else hornAt cs x (cs.length - 1)

theorem vW {o:Option Nat} {a:Nat} (h:Ag o a) (op:BinOp) (x:Nat):(o.bind fun p=>floatBits op .f64 p x)=floatBits op .f64 a x:=by
 cases o with
 | some r=>rw [bq h];rfl
 | none=>rw [hU (bV h).1];rfl
theorem sS {o:Option Nat} {a:Nat} (h:Ag o a) (x y:Nat):dS x o y=(floatBits .mul .f64 a x).bind fun q=>floatBits .add .f64 q y:=by
 unfold dS;rw [vW h]
theorem ia {w wr:World} (h:∃ q,wr=w.drewN q):∃ q,wr.drew=w.drewN q:=by
 obtain⟨q,e⟩:=h;exact⟨q+1,by rw [e];rfl⟩

set_option maxHeartbeats 800000 in
theorem ib (p:Option Addr) (g off c x n:Nat) (cs:List Nat) (w:World) (hs:Src w p g off cs) (hN:cs.length=n) (hn:n≤1000000) :
  Calls Tryz.prog 110 #[.slice p n c,.float .f64 x] w fun e w'=>∃ r,e=.returned (.float .f64 r)∧Ag (bC cs x) r∧∃ q,w'=w.drewN q:=by
 have HS:=hideS hs
 have HN:=hideS hN
 by_cases h0:n=0
 ·subst h0
  have HR:Hid (bC cs x=some 0):=by show _=_;unfold bC;rw [if_pos hN]
  clear hs hN HS HN
  go_enter Tryz.func110,Tryz.ntmps110
  go_wp2
  go_ret
  exact⟨_,rfl,by rw [HR.out];rfl,0,rfl⟩
 obtain⟨m,rfl⟩:∃ m,n=m+1:=⟨n - 1,by omega⟩
 obtain rfl:=hs.at_ (by omega)
 have hc0:=hs.cell m (by omega)
 have HR:Hid (bC cs x=hornAt cs x m):=by show _=_;unfold bC;rw [if_neg (by omega),hN];rfl
 have HA0:Hid (hornAt cs x 0=some (cs.getD m 0)):=by show _=_;unfold hornAt;rw [hN];rfl
 have HA1:Hid (∀ i,hornAt cs x (i+1)=dS x (hornAt cs x i) (cs.getD (m - 1 - i) 0)):=fun i=>by
  show dS x (hornAt cs x i) (cs.getD (cs.length - 2 - i) 0)=_
  rw [hN];rfl
 generalize cs.getD m 0=p0 at hc0 HA0
 clear hs hN h0
 go_enter Tryz.func110,Tryz.ntmps110
 go_wp2_with fail
 go_loopw [6,19] (fun s i wr=>∃ k a:Nat,k≤m∧i=.int .i64 k∧s=.float .f64 a∧Hid (Ag (hornAt cs x k) a)∧Hid (∃ q,wr=w.drewN q)) (fun _ i _=>m - (intOf i).toNat)
 case atStart=>exact⟨0,p0,Nat.zero_le _,rfl,rfl,by rw [HA0.out];rfl,⟨0,rfl⟩⟩
 case round=>
  obtain⟨k,a,hk,rfl,rfl,HA,HQ⟩:=hrel
  by_cases hlt:k<m
  ·have hcx:wr.cell? ⟨g,off+(m - 1 - k),none⟩=some (.float .f64 (cs.getD (m - 1 - k) 0)):=by
    obtain⟨q,e⟩:=HQ.out
    rw [e];exact HS.out.cell (m - 1 - k) (by rw [HN.out];omega)
   have HA2:=hideS (HA1.out k)
   obtain⟨j,hj⟩:∃ j:Nat,m - 1 - k=j:=⟨_,rfl⟩
   have hj2:(m:Int) - 1 - k=j:=by omega
   rw [hj] at hcx HA2
   clear hj
   generalize cs.getD j 0=y at hcx HA2
   rw [sS HA.out] at HA2
   clear HA HA1 HA0
   cases hq:floatBits .mul .f64 a x with
   | some q=>
    have r1:=fun w=>run_float_arith (P:=Tryz.prog) w .mul 34 .f64 a x q hq
    cases hr:floatBits .add .f64 q y with
    | some r=>
     have r2:=fun w=>run_float_arith (P:=Tryz.prog) w .add 34 .f64 q y r hr
     have HE:Hid (Ag (hornAt cs x (k+1)) r):=by rw [HA2.out,hq];show Ag (floatBits .add .f64 q y) r;rw [hr];rfl
     clear hq hr HA2
     go_wp2
     go_roundw
     case rel=>exact⟨k+1,r,by omega,by simp,rfl,HE,HQ⟩
     case measure=>simp [intOf];omega
    | none=>
     have r2:=bQ (P:=Tryz.prog) .add (by simp) 34 q y hr
     have HE:Hid (∀ z,Ag (hornAt cs x (k+1)) (cV q y z)):=fun z=>by rw [HA2.out,hq];show Ag (floatBits .add .f64 q y) _;rw [hr];exact cW q y z
     clear hq hr HA2
     go_wp2
     go_roundw
     case rel=>exact⟨k+1,_,by omega,by simp,rfl,HE.out _,ia HQ.out⟩
     case measure=>simp [intOf];omega
   | none=>
    have r1:=bQ (P:=Tryz.prog) .mul (by simp) 34 a x hq
    have r2:=fun z=>bQ (P:=Tryz.prog) .add (by simp) 34 (cV a x z) y (hU (cW a x z).1)
    have HE:Hid (∀ z z',Ag (hornAt cs x (k+1)) (cV (cV a x z) y z')):=fun z z'=>by rw [HA2.out,hq];exact cW _ y z'
    clear hq HA2
    go_wp2
    go_roundw
    case rel=>exact⟨k+1,_,by omega,by simp,rfl,HE.out _ _,ia (ia HQ.out)⟩
    case measure=>simp [intOf];omega
  ·obtain rfl:k=m:=by omega
   go_wp2
   go_ret
   exact⟨_,rfl,by rw [HR.out];exact HA.out,HQ.out⟩
end Go.Proofs.YtbokkedmfolfdaaGreat
namespace Go.Proofs.YtbokkedmfolfdaaGreat
open Go.RowKit

theorem nF {s:Bool} {r:Nat} (h:r≤9218868437227405312):wrd s r<18446744073709551616:=by unfold wrd;split<;>omega
theorem write_lt (d:Ieee.Datum) (h:∀ s f,d≠.nan s f):Ieee.double.write d<18446744073709551616:=by
 cases d with
 | nan s f=>exact absurd rfl (h s f)
 | infinity s=>rw [show Ieee.double.write (.infinity s)=wrd s 9218868437227405312 by cases s<;>decide+kernel];exact nF (Nat.le_refl _)
 | number s m i=>
  show Ieee.double.nearest s m i<_
  by_cases h0:m=0
  ·rw [h0,aY,cU];exact nF (Nat.zero_le _)
  ·rw [aS s h0,cU];exact nF (Nat.min_le_right _ _)
theorem sU {a b d:Ieee.Datum} (h:a.sum b=some d):∀ s f,d≠.nan s f:=by
 intro s f e
 subst e
 cases a<;>cases b<;>simp [Ieee.Datum.sum] at h
theorem nG {a b d:Ieee.Datum} (h:a.product b=some d):∀ s f,d≠.nan s f:=by
 intro s f e
 subst e
 cases a<;>cases b<;>simp [Ieee.Datum.product] at h
theorem lK {a b d:Ieee.Datum} {k:Nat} (h:a.quotient k b=some d):∀ s f,d≠.nan s f:=by
 intro s f e
 subst e
 cases a<;>cases b<;>simp [Ieee.Datum.quotient] at h
 split at h
 ·split at h<;>cases h
 ·cases h
theorem kJ {o:Option Ieee.Datum} {r:Nat} (ho:∀ d,o=some d→∀ s f,d≠.nan s f) (h:o.map Ieee.double.write=some r):r<18446744073709551616:=by
 cases o with
 | none=>cases h
 | some d=>
  have:Ieee.double.write d=r:=Option.some.inj h
  rw [← this];exact write_lt d (ho d rfl)
theorem ic {op:BinOp} (ho:op=.add∨op=.sub∨op=.mul∨op=.quo) {x y r:Nat} (h:floatBits op .f64 x y=some r):r<18446744073709551616:=by
 rcases ho with rfl | rfl | rfl | rfl
 ·exact kJ (o:=(Ieee.double.read x).sum (Ieee.double.read y)) (fun d hd=>sU hd) h
 ·exact kJ (o:=(Ieee.double.read x).sum (Ieee.double.read y).opposite) (fun d hd=>sU hd) h
 ·exact kJ (o:=(Ieee.double.read x).product (Ieee.double.read y)) (fun d hd=>nG hd) h
 ·exact kJ (o:=(Ieee.double.read x).quotient 54 (Ieee.double.read y)) (fun d hd=>lK hd) h
end Go.Proofs.YtbokkedmfolfdaaGreat
namespace Go.Proofs.YtbokkedmfolfdaaGreat
open Go.RowKit

def bU (v a b:Int):Int:=
 if ltB b a then (if ltB v b then b else if ltB a v then a else v)
 else if ltB a b then (if ltB v a then a else if ltB b v then b else v)
 else (if ltB v a then a else if ltB a v then a else v)
theorem lM {v a b:Int} (hv:U64 v) (ha:U64 a) (hb:U64 b):U64 (bU v a b):=by
 unfold bU
 (repeat' split)<;>assumption
theorem ak {u v:Int} (hu:af u=false) (hv:af v=false):ltB u v=decide (aa u<aa v):=by
 unfold ltB
 rw [hu,hv];simp
theorem we {v a b:Int} (hv:af v=false) (ha:af a=false) (hb:af b=false) (h:aa a≤aa b):af (bU v a b)=false∧aa a≤aa (bU v a b)∧aa (bU v a b)≤aa b:=by
 unfold bU
 rw [ak hb ha,ak hv hb,ak ha hv,ak ha hb,ak hv ha,ak hb hv]
 simp only [decide_eq_true_eq]
 rw [if_neg (by omega)]
 (repeat' split)<;>exact⟨by assumption,by omega,by omega⟩
theorem qx {v a b:Int} (hv:af v=false) (ha:af a=false) (hb:af b=false) (h:aa b≤aa a):af (bU v a b)=false∧aa b≤aa (bU v a b)∧aa (bU v a b)≤aa a:=by
 unfold bU
 rw [ak hb ha,ak hv hb,ak ha hv,ak ha hb,ak hv ha,ak hb hv]
 simp only [decide_eq_true_eq]
 (repeat' split)<;>exact⟨by assumption,by omega,by omega⟩
end Go.Proofs.YtbokkedmfolfdaaGreat
namespace Go.Proofs.YtbokkedmfolfdaaGreat
open Go.RowKit

def opO (op:BinOp) (a b:Option Nat):Option Nat:=a.bind fun a=>b.bind fun b=>floatBits op .f64 a b
theorem dx {op:BinOp} {o o':Option Nat} {a c:Nat} (h:Ag o a) (h':Ag o' c):opO op o o'=floatBits op .f64 a c:=by
 unfold opO
 cases o with
 | none=>rw [hU (bV h).1];rfl
 | some r=>
  rw [bq h]
  cases o' with
  | none=>rw [jI (bV h').1];rfl
  | some r'=>rw [bq h'];rfl
theorem bD (op:BinOp) (ho:op=.add∨op=.sub∨op=.mul∨op=.quo) (t:TypeId) (a c:Nat) (w:World):∃ r,(∃ q,(binOp op t (.float .f64 a) (.float .f64 c)).run Tryz.prog w=.ok (.float .f64 r) (w.drewN q))∧Ag (floatBits op .f64 a c) r:=by
 cases h:floatBits op .f64 a c with
 | some r=>exact⟨r,⟨0,run_float_arith (P:=Tryz.prog) w op t .f64 a c r h⟩,rfl⟩
 | none=>exact⟨_,⟨1,bQ (P:=Tryz.prog) op ho t a c h w⟩,cW a c w⟩
end Go.Proofs.YtbokkedmfolfdaaGreat
namespace Go.Proofs.YtbokkedmfolfdaaGreat
open Go.RowKit

theorem aZ (w:World) (kind:Int) (vx vy:Value):TBox w kind vx vy (w.alloc (.cells #[.int .i64 kind,vx,vy] 93)):=
 ⟨by simp,by simp,by simp,(Below.refl _ _).alloc (Nat.le_refl _) _,by simp⟩

end Go.Proofs.YtbokkedmfolfdaaGreat
namespace Go.Proofs.YtbokkedmfolfdaaGreat
open Go.RowKit

theorem aC (m:Int):floatOfInt .f64 m=fi m:=by
 show Ieee.double.nearest (decide (m<0)) m.natAbs 0=_
 unfold fi aw
 by_cases h0:m=0
 ·subst h0;rfl
 ·rw [if_neg h0,aS _ (by omega)]
  by_cases hn:m<0
  ·simp only [hn,decide_true,if_true];rw [dI]
  ·simp only [hn,decide_false,if_false];rw [dV]
theorem jW (P:Program) (w:World) (a:Addr) (x:Nat) (z:Value) (h:w.cell? a=some z) (hf:w.frozen? a=false):(store a (.float .f64 x)).run P w=.ok () (w.setCell a (.float .f64 x)):=by
 rw [run_store P w a _ _ rfl,h];simp [hf]
theorem mc:(Tryz.prog.info? 34).map (fun i=>(i.zero,i.size,i.bytes))=some (some (.float .f64 0),1,8):=by kernel_rfl

def expL:List Nat:=[4607182418800017408,4607182418800017408,4602678819172646912,4595172819793696085,4586165620538955093,4575957461383581969,4564047942368979991,4551452160554016794,4537941361671905306,4523617214285662004,4508805057796939612,4493156764026750180,4477122120089393304,4460272573143870729]
def lnL:List Nat:=[4607182418800017408,4599676419421066581,4596373779694328218,4594314991293244562,4592670820000712476,4591215111030249286,4590207312512236308,4589468260265693457,4588638185040256542,4587745830934523688,4587023449039406616]
def me:Nat→Nat
 | 0=>1
 | k+1=>me k*max k 1
theorem ww:∀ k,k<14→floatBits .quo .f64 4607182418800017408 (fi (me (k+1):Int))=some (expL.getD k 0):=by decide+kernel
theorem xJ:∀ k,k<11→floatBits .quo .f64 4607182418800017408 (fi ((2*k+1:Nat):Int))=some (lnL.getD k 0):=by decide+kernel
theorem tH:∀ k,k<15→1≤me k∧me k≤6227020800:=by decide+kernel

def jX (w:World) (b n:Nat) (l:List Nat) (j:Nat):Prop:=w.rowIs b 34 n (fun i=>.float .f64 (if i<j then l.getD i 0 else 0))
theorem iz (w:World) (n:Nat) (l:List Nat):jX (w.alloc (.cells (madeCells #[.float .f64 0] n) 34)) w.heap.size n l 0:=
 (World.rowIs_made w (.float .f64 0) n 34).congr (fun i _=>by rw [if_neg (by omega)])
theorem iA {w:World} {b n j x:Nat} {l:List Nat} (h:jX w b n l j) (hx:x=l.getD j 0):jX (w.setCell ⟨b,j,none⟩ (.float .f64 x)) b n l (j+1):=by
 refine (h.set j (.float .f64 x)).congr fun i _=>?_
 by_cases c:i=j
 ·rw [if_pos c,if_pos (by omega),hx,c]
 ·rw [if_neg c]
  by_cases d:i<j
  ·rw [if_pos d,if_pos (by omega)]
  ·rw [if_neg d,if_neg (by omega)]
theorem jY {w:World} {b n:Nat} {l:List Nat} (h:jX w b n l n) (hn:l.length=n):Src w (some ⟨b,0,none⟩) b 0 l:=
 ⟨fun _=>rfl,fun _=>h.lt,fun j hj=>by
  rw [Nat.zero_add]
  have:=h.cell (i:=j) (by omega)
  rw [if_pos (by omega)] at this;exact this⟩

set_option maxHeartbeats 800000 in
theorem kW (w:World) :
  Calls Tryz.prog 111 #[] w fun e w'=>e=.returned (.slice (some ⟨w.heap.size,0,none⟩) 14 14)∧Src w' (some ⟨w.heap.size,0,none⟩) w.heap.size 0 expL∧Below w.heap.size w w':=by
 have hmk:=fun w=>run_make_row' (P:=Tryz.prog) 24 34 (.float .f64 0) 8 Tryz.underlying24 mc rfl .i64 .i64 14 (by omega) (by omega) w
 rw [show ((14:Nat):Int)=14 from rfl] at hmk
 have HO:=hideS (iz w 14 expL)
 go_enter Tryz.func111,Tryz.ntmps111
 go_wp2_with fail
 go_loopw [2,5] (fun s i wr=>∃ k f:Nat,k≤14∧i=.int .i64 k∧s=.int .i64 f∧Hid (f=me k)∧Hid (jX wr w.heap.size 14 expL k)∧Hid (Below w.heap.size w wr)) (fun _ i _=>14 - (intOf i).toNat)
 case atStart=>exact⟨0,1,Nat.zero_le _,rfl,rfl,rfl,HO,(Below.refl _ _).alloc (Nat.le_refl _) _⟩
 case round=>
  clear HO hmk
  obtain⟨k,f,hk,rfl,rfl,HF,HH,HB⟩:=hrel
  by_cases hlt:k<14
  ·have hb:=tH k (by omega)
   have hb2:=tH (k+1) (by omega)
   rw [← HF.out] at hb
   have hdv:=ww k hlt
   obtain⟨f',hf'⟩:∃ f',me (k+1)=f':=⟨_,rfl⟩
   have HF':Hid (f'=me (k+1)):=hf'.symm
   rw [hf'] at hdv hb2
   have hmx:max (k:Int) 1=((max k 1:Nat):Int):=by omega
   have hml:(f:Int)*((max k 1:Nat):Int)=(f':Int):=by rw [← hf'];show _=((me k*max k 1:Nat):Int);rw [HF.out,Int.natCast_mul]
   clear hf' HF
   generalize ((max k 1:Nat):Int)=mx at hmx hml
   obtain⟨x,hx⟩:∃ x,expL.getD k 0=x:=⟨_,rfl⟩
   have HX:Hid (x=expL.getD k 0):=hx.symm
   rw [hx] at hdv
   clear hx
   have hfo:=aC (f':Int)
   have r1:=fun w=>run_float_arith (P:=Tryz.prog) w .quo 34 .f64 4607182418800017408 (fi (f':Int)) x hdv
   clear hdv
   generalize fi (f':Int)=y at hfo r1
   have hcz:=HH.out.cell (i:=k) hlt
   rw [if_neg (by omega)] at hcz
   have hfz:=HH.out.frozen k
   have hst:=jW Tryz.prog wr ⟨w.heap.size,k,none⟩ x _ hcz hfz
   go_wp2_with fail
   go_roundw
   case rel=>exact⟨k+1,f',by omega,by simp,rfl,HF',iA HH.out HX.out,HB.out.setCell (Nat.le_refl _) _⟩
   case measure=>simp [intOf];omega
  ·obtain rfl:k=14:=by omega
   have HS:=hideS (jY HH.out (by rfl))
   go_wp2_with fail
   go_ret
   exact⟨rfl,HS.out,HB.out⟩

set_option maxHeartbeats 800000 in
theorem mf (w:World) :
  Calls Tryz.prog 113 #[] w fun e w'=>e=.returned (.slice (some ⟨w.heap.size,0,none⟩) 11 11)∧Src w' (some ⟨w.heap.size,0,none⟩) w.heap.size 0 lnL∧Below w.heap.size w w':=by
 have hmk:=fun w=>run_make_row' (P:=Tryz.prog) 24 34 (.float .f64 0) 8 Tryz.underlying24 mc rfl .i64 .i64 11 (by omega) (by omega) w
 rw [show ((11:Nat):Int)=11 from rfl] at hmk
 have HO:=hideS (iz w 11 lnL)
 go_enter Tryz.func113,Tryz.ntmps113
 go_wp2_with fail
 go_loopw [4] (fun i wr=>∃ k:Nat,k≤11∧i=.int .i64 k∧Hid (jX wr w.heap.size 11 lnL k)∧Hid (Below w.heap.size w wr)) (fun i _=>11 - (intOf i).toNat)
 case atStart=>exact⟨0,Nat.zero_le _,rfl,HO,(Below.refl _ _).alloc (Nat.le_refl _) _⟩
 case round=>
  clear HO hmk
  obtain⟨k,hk,rfl,HH,HB⟩:=hrel
  by_cases hlt:k<11
  ·have hdv:=xJ k hlt
   have hml:(2:Int)*(k:Int)+1=((2*k+1:Nat):Int):=by omega
   obtain⟨m,hm⟩:∃ m:Int,((2*k+1:Nat):Int)=m:=⟨_,rfl⟩
   rw [hm] at hdv hml
   clear hm
   obtain⟨x,hx⟩:∃ x,lnL.getD k 0=x:=⟨_,rfl⟩
   have HX:Hid (x=lnL.getD k 0):=hx.symm
   rw [hx] at hdv
   clear hx
   have hfo:=aC m
   have r1:=fun w=>run_float_arith (P:=Tryz.prog) w .quo 34 .f64 4607182418800017408 (fi m) x hdv
   clear hdv
   generalize fi m=y at hfo r1
   have hcz:=HH.out.cell (i:=k) hlt
   rw [if_neg (by omega)] at hcz
   have hfz:=HH.out.frozen k
   have hst:=jW Tryz.prog wr ⟨w.heap.size,k,none⟩ x _ hcz hfz
   go_wp2_with fail
   go_roundw
   case rel=>exact⟨k+1,by omega,by simp,iA HH.out HX.out,HB.out.setCell (Nat.le_refl _) _⟩
   case measure=>simp [intOf];omega
  ·obtain rfl:k=11:=by omega
   have HS:=hideS (jY HH.out (by rfl))
   go_wp2_with fail
   go_ret
   exact⟨rfl,HS.out,HB.out⟩
end Go.Proofs.YtbokkedmfolfdaaGreat
namespace Go.Proofs.YtbokkedmfolfdaaGreat
open Go.RowKit

end Go.Proofs.YtbokkedmfolfdaaGreat
namespace Go.Proofs.YtbokkedmfolfdaaGreat
open Go.RowKit

theorem iB {b:Nat} (h:b<9218868437227405312):U64 (b:Int)∧af (b:Int)=false∧aa (b:Int)=b:=by
 have h1:szI (b:Int)=b:=by unfold szI;omega
 have h2:af (b:Int)=false:=by unfold af;rw [h1];simp;omega
 have h3:sgB (b:Int)=false:=by simp [sgB];omega
 exact⟨by unfold U64;omega,h2,by rw [rank_pos h2 h3,h1]⟩
theorem tI (neg:Bool) (n drop:Nat):Ieee.Toward.down.cut neg n drop=n / 2^drop+(if neg=true∧n % 2^drop≠0 then 1 else 0):=by
 show n / (1 <<< min drop (n.log2+2))+(neg&&n % (1 <<< min drop (n.log2+2)) !=0).toNat=_
 rw [Nat.one_shiftLeft]
 have key:n / 2^min drop (n.log2+2)=n / 2^drop∧n % 2^min drop (n.log2+2)=n % 2^drop:=by
  by_cases h:drop≤n.log2+2
  ·rw [Nat.min_eq_left h];exact⟨rfl,rfl⟩
  ·rw [Nat.min_eq_right (by omega)]
   have hl:n<2^(n.log2+1):=Nat.lt_log2_self
   have h1:(2:Nat)^(n.log2+1)≤2^(n.log2+2):=Nat.pow_le_pow_right (by decide) (by omega)
   have h2:(2:Nat)^(n.log2+2)≤2^drop:=Nat.pow_le_pow_right (by decide) (by omega)
   rw [Nat.div_eq_of_lt (by omega),Nat.div_eq_of_lt (by omega),Nat.mod_eq_of_lt (by omega),Nat.mod_eq_of_lt (by omega)]
   exact⟨rfl,rfl⟩
 rw [key.1,key.2]
 congr 1
 cases neg
 ·rfl
 ·by_cases h0:n % 2^drop=0
  ·rw [h0];rfl
  ·rw [if_pos ⟨rfl,h0⟩];simp [h0]
theorem qY (m p K:Nat):(m <<< (-(K:Int)+(p:Int)).toNat) / 2^(-(-(K:Int)+(p:Int))).toNat=m*2^p / 2^K∧((m <<< (-(K:Int)+(p:Int)).toNat) % 2^(-(-(K:Int)+(p:Int))).toNat=0↔m*2^p % 2^K=0):=by
 rw [Nat.shiftLeft_eq]
 by_cases h:p≤K
 ·have e1:(-(K:Int)+(p:Int)).toNat=0:=by omega
  have e2:(-(-(K:Int)+(p:Int))).toNat=K - p:=by omega
  have e3:(2:Nat)^K=2^(K - p)*2^p:=by rw [← Nat.pow_add,show K - p+p=K by omega]
  have hp:=Nat.two_pow_pos p
  rw [e1,e2,e3,Nat.pow_zero,Nat.mul_one,Nat.mul_div_mul_right _ _ hp,Nat.mul_mod_mul_right]
  refine⟨rfl,?_⟩
  constructor
  ·intro h;rw [h,Nat.zero_mul]
  ·intro h;rcases Nat.mul_eq_zero.1 h with h | h
   ·exact h
   ·omega
 ·have e1:(-(K:Int)+(p:Int)).toNat=p - K:=by omega
  have e2:(-(-(K:Int)+(p:Int))).toNat=0:=by omega
  have e3:(2:Nat)^p=2^(p - K)*2^K:=by rw [← Nat.pow_add,show p - K+K=p by omega]
  have hp:=Nat.two_pow_pos K
  rw [e1,e2,e3,Nat.pow_zero,Nat.div_one,Nat.mod_one,← Nat.mul_assoc,Nat.mul_div_cancel _ hp,Nat.mul_mod_left]
  exact⟨rfl,Iff.rfl⟩
theorem nX {b K:Nat} (hK:K=1074) (h:ab b) (hz:b % 9223372036854775808≠0∨sB b=false) :
  ∃ k:Int,Ieee.double.write ((Ieee.double.read b).integral .down)=fi k∧k*((2^K:Nat):Int)≤vI b∧vI b<(k+1)*((2^K:Nat):Int):=by
 rw [aj h]
 have hv:=jH b
 have hs:(b / 9223372036854775808 % 2==1)=sB b:=rfl
 have hm0:b % 9223372036854775808≠0→mg (b % 9223372036854775808)≠0:=fun h=>by unfold mg;split<;>omega
 rw [hs] at hv ⊢
 generalize b % 9223372036854775808=r at *
 generalize hm:mg r=m at *
 generalize pl r=p at *
 have hP:=Nat.two_pow_pos K
 have hp2:=Nat.two_pow_pos p
 obtain⟨c1,c2⟩:=qY m p K
 have key:∀ s,Ieee.double.write ((Ieee.Datum.number s m (-1074+(p:Int))).integral .down)=Ieee.double.nearest s (m*2^p / 2^K+(if s=true∧m*2^p % 2^K≠0 then 1 else 0)) 0:=fun s=>by
  show Ieee.double.nearest s (Ieee.Toward.down.cut s (m <<< (-1074+(p:Int)).toNat) (-(-1074+(p:Int))).toNat) 0=_
  have e:(-1074+(p:Int))= -(K:Int)+(p:Int):=by omega
  rw [tI,e,c1]
  congr 2
  simp only [ne_eq,c2]
 rw [key]
 obtain⟨A,hA⟩:∃ A,m*2^p=A:=⟨_,rfl⟩
 obtain⟨P,hPP⟩:∃ P,2^K=P:=⟨_,rfl⟩
 rw [hA] at hv ⊢
 rw [hPP] at hP ⊢
 have hd:=Nat.div_add_mod A P
 have hlt:=Nat.mod_lt A hP
 generalize A / P=q at *
 generalize A % P=t at *
 clear key c1 c2
 cases hsb:sB b with
 | false=>
  rw [hsb] at hv
  refine⟨(q:Nat),?_,?_,?_⟩
  ·rw [if_neg (by simp),Nat.add_zero]
   unfold fi aw
   by_cases h0:q=0
   ·rw [h0,aY];rfl
   ·rw [aS _ h0,dV,if_neg (by omega),if_neg (by omega),Int.natAbs_natCast]
  ·rw [hv];show ((q:Nat):Int)*(P:Int)≤(A:Int)
   rw [← Int.natCast_mul,Nat.mul_comm];omega
  ·rw [hv];show (A:Int)<(((q:Nat):Int)+1)*(P:Int)
   rw [Int.add_mul,← Int.natCast_mul,Nat.mul_comm];omega
 | true=>
  rw [hsb] at hv
  have hr0:r≠0:=by
   rcases hz with h | h
   ·exact h
   ·rw [hsb] at h;cases h
  have hA0:A≠0:=by rw [← hA];exact Nat.mul_ne_zero (hm0 hr0) (by omega)
  by_cases hr:t=0
  ·refine⟨-((q:Nat):Int),?_,?_,?_⟩
   ·rw [if_neg (by simp [hr]),Nat.add_zero]
    have h0:q≠0:=by
     intro h0;rw [h0,Nat.mul_zero] at hd;omega
    unfold fi aw
    rw [aS _ h0,dI,if_neg (by omega),if_pos (by omega),Int.natAbs_neg,Int.natAbs_natCast]
   ·rw [hv];show -((q:Nat):Int)*(P:Int)≤-(A:Int)
    rw [Int.neg_mul,← Int.natCast_mul,Nat.mul_comm];omega
   ·rw [hv];show -(A:Int)<(-((q:Nat):Int)+1)*(P:Int)
    rw [Int.add_mul,Int.neg_mul,← Int.natCast_mul,Nat.mul_comm];omega
  ·refine⟨-((q+1:Nat):Int),?_,?_,?_⟩
   ·rw [if_pos ⟨rfl,hr⟩]
    unfold fi aw
    rw [aS _ (by omega),dI,if_neg (by omega),if_pos (by omega),Int.natAbs_neg,Int.natAbs_natCast]
   ·rw [hv];show -((q+1:Nat):Int)*(P:Int)≤-(A:Int)
    rw [Int.neg_mul,← Int.natCast_mul,Nat.add_mul,Nat.mul_comm (q)];omega
   ·rw [hv];show -(A:Int)<(-((q+1:Nat):Int)+1)*(P:Int)
    rw [Int.add_mul,Int.neg_mul,← Int.natCast_mul,Nat.add_mul,Nat.mul_comm (q)];omega

theorem iC (b:Nat) (s:Bool) (m:Nat) (i:Int) (hd:FloatKind.f64.decode b=.number s m i):Extern.MathFloor.toIntegral "math.archFloor" .down #[.float .f64 b]=pure (.float .f64 (FloatKind.f64.encode ((Ieee.Datum.number s m i).integral .down))):=by
 conv=>lhs;whnf
 rw [hd]
theorem iD (b:Nat) (h:ab b) (w:World):(callFunc 116 #[.float .f64 b]).run Tryz.prog w=.ok (.value (.float .f64 (Ieee.double.write ((Ieee.double.read b).integral .down)))) w:=by
 refine (run_callFunc_extern (e:=Extern.MathFloor.toIntegral "math.archFloor" .down) Tryz.func116 (by kernel_rfl) (by kernel_rfl) (by kernel_rfl) (by kernel_rfl) _ w).trans ?_
 have e:FloatKind.f64.decode b=_:=aj h
 rw [iC b _ _ _ e,aj h]
 rfl

set_option maxHeartbeats 800000 in
theorem tJ (b f:Nat) (w:World) (h:ab b) (hf:Ieee.double.write ((Ieee.double.read b).integral .down)=f) :
  Calls Tryz.prog 108 #[.float .f64 b] w fun e w'=>e=.returned (.float .f64 f)∧w'=w:=by
 have h1:=iD b h
 rw [hf] at h1
 clear hf h
 go_enter Tryz.func108,Tryz.ntmps108
 go_wp2
 go_ret
 exact⟨rfl,rfl⟩
end Go.Proofs.YtbokkedmfolfdaaGreat
namespace Go.Proofs.YtbokkedmfolfdaaGreat

theorem kX {s:Bool} {r:Nat} (h:r<9218868437227405312):vI (wrd s r)=sgZ s (V r)∧ab (wrd s r)∧wrd s r<18446744073709551616∧sB (wrd s r)=s:=by
 cases s
 ·have e:wrd false r=r:=rfl
  rw [e]
  refine⟨?_,?_,by omega,?_⟩
  ·rw [cg]
   unfold sB aV
   rw [show r / 9223372036854775808 % 2=0 by omega,show r % 9223372036854775808=r by omega];rfl
  ·unfold ab;omega
  ·unfold sB;rw [show r / 9223372036854775808 % 2=0 by omega];rfl
 ·have e:wrd true r=9223372036854775808+r:=rfl
  rw [e]
  refine⟨?_,?_,by omega,?_⟩
  ·rw [cg]
   unfold sB aV
   rw [show (9223372036854775808+r) / 9223372036854775808 % 2=1 by omega,show (9223372036854775808+r) % 9223372036854775808=r by omega];rfl
  ·unfold ab;omega
  ·unfold sB;rw [show (9223372036854775808+r) / 9223372036854775808 % 2=1 by omega];rfl
theorem fB {T e:Int} (h:T≠0):aw T e=wrd (decide (T<0)) (ag T.natAbs e):=by
 unfold aw wrd
 rw [if_neg h]
 by_cases hn:T<0
 ·rw [if_pos hn,if_pos (by simpa using hn)]
 ·rw [if_neg hn,if_neg (by simpa using hn)]
theorem nY {k:Nat} {T:Int}:sgZ (decide (T<0)) (V (ag T.natAbs (-1074 - (k:Int))))=rI k T:=by
 unfold sgZ rI
 by_cases hn:T<0
 ·rw [if_pos (by simpa using hn),if_pos hn]
 ·rw [if_neg (by simpa using hn),if_neg hn]
theorem kY (k:Nat):rI k 0=0:=by
 unfold rI
 rw [if_neg (by decide),Int.natAbs_zero,dX (by omega),aR];rfl
theorem jZ {x y:Nat} (hx:ab x) (hy:ab y) (hf:nD 0 (vI x+vI y)):∃ z,floatBits .add .f64 x y=some z∧ab z∧z<18446744073709551616∧vI z=rI 0 (vI x+vI y):=by
 refine⟨_,gE hx hy,?_⟩
 unfold jo
 generalize vI x+vI y=T at *
 by_cases h0:T=0
 ·rw [if_pos h0,h0,kY]
  split
  ·exact⟨by unfold ab;decide,by decide,by decide⟩
  ·exact⟨by unfold ab;decide,by decide,by decide⟩
 ·rw [if_neg h0,fB h0]
  have hf':ag T.natAbs (-1074)<9218868437227405312:=hf
  obtain⟨a,b,c,_⟩:=kX (s:=decide (T<0)) hf'
  refine⟨b,c,?_⟩
  rw [a]
  exact nY (k:=0)
theorem qZ {x y:Nat} (hx:ab x) (hy:ab y) (hf:nD 0 (vI x - vI y)):∃ z,floatBits .sub .f64 x y=some z∧ab z∧z<18446744073709551616∧vI z=rI 0 (vI x - vI y):=by
 refine⟨_,kD hx hy,?_⟩
 unfold jo
 generalize vI x - vI y=T at *
 by_cases h0:T=0
 ·rw [if_pos h0,h0,kY]
  split
  ·exact⟨by unfold ab;decide,by decide,by decide⟩
  ·exact⟨by unfold ab;decide,by decide,by decide⟩
 ·rw [if_neg h0,fB h0]
  have hf':ag T.natAbs (-1074)<9218868437227405312:=hf
  obtain⟨a,b,c,_⟩:=kX (s:=decide (T<0)) hf'
  refine⟨b,c,?_⟩
  rw [a]
  exact nY (k:=0)
theorem ka (x:Nat):(vI x).natAbs=aV x:=by rw [cg];unfold sgZ;cases sB x<;>simp
theorem iE {x:Nat} (h:vI x≠0):decide (vI x<0)=sB x:=by
 rw [cg] at h ⊢
 unfold sgZ at *
 cases sB x
 ·simp
 ·simp only [if_true] at *;simp;omega
theorem tK {a b:Int} (ha:a≠0) (hb:b≠0):(decide (a<0)^^decide (b<0))=decide (a*b<0):=by
 rcases Int.lt_or_lt_of_ne ha with pa | pa<;>rcases Int.lt_or_lt_of_ne hb with pb | pb
 ·have:=Int.mul_pos_of_neg_of_neg pa pb;simp [pa,pb];omega
 ·have:=Int.mul_neg_of_neg_of_pos pa pb;simp [pa,this];omega
 ·have:=Int.mul_neg_of_pos_of_neg pa pb;simp [pb,this];omega
 ·have:=Int.mul_pos pa pb
  rw [decide_eq_false (show ¬ a<0 by omega),decide_eq_false (show ¬ b<0 by omega),decide_eq_false (show ¬ a*b<0 by omega)];rfl
theorem kc {x y K:Nat} (hK:K=1074) (hx:ab x) (hy:ab y) (hf:nD K (vI x*vI y)):∃ z,floatBits .mul .f64 x y=some z∧ab z∧z<18446744073709551616∧vI z=rI K (vI x*vI y):=by
 refine⟨_,gF hx hy,?_⟩
 unfold qt
 rw [← ka,← ka,← Int.natAbs_mul]
 by_cases h0:vI x*vI y=0
 ·rw [h0,Int.natAbs_zero,if_pos rfl,kY]
  obtain⟨a,b,c,_⟩:=kX (s:=sB x^^sB y) (r:=0) (by decide)
  refine⟨b,c,?_⟩
  rw [a,aR];unfold sgZ;split<;>rfl
 ·have hx0:vI x≠0:=fun h=>h0 (by rw [h,Int.zero_mul])
  have hy0:vI y≠0:=fun h=>h0 (by rw [h,Int.mul_zero])
  rw [if_neg (by omega),← iE hx0,← iE hy0,tK hx0 hy0]
  unfold nD at hf
  rw [show (-1074 - (K:Int))= -2148 by omega] at hf
  obtain⟨a,b,c,_⟩:=kX (s:=decide (vI x*vI y<0)) hf
  refine⟨b,c,?_⟩
  rw [a]
  have:=nY (k:=K) (T:=vI x*vI y)
  rw [show (-1074 - (K:Int))= -2148 by omega] at this
  exact this
end Go.Proofs.YtbokkedmfolfdaaGreat
namespace Go.Proofs.YtbokkedmfolfdaaGreat

theorem tL {q k:Nat} (hk1:4503599627370496≤k) (hk2:k<9007199254740992):mg (q*4503599627370496+k)=k∧pl (q*4503599627370496+k)=q:=by
 unfold mg pl
 rw [if_neg (by omega)]
 omega
theorem tM {m E:Nat} (h:m<9007199254740992) (hE:52≤E) (hE2:E≤1900):Rep ((m*2^E:Nat):Int):=by
 by_cases h0:m=0
 ·subst h0;rw [Nat.zero_mul];exact sR
 have a:=Nat.log2_self_le h0
 have b:m<2^(m.log2+1):=Nat.lt_log2_self
 have hl:m.log2<53:=(Nat.log2_lt h0).2 (by omega)
 generalize m.log2=l at a b hl
 obtain⟨k,hk⟩:∃ k,m*2^(52 - l)=k:=⟨_,rfl⟩
 have hk1:4503599627370496≤k:=by
  have:=Nat.mul_le_mul_right (2^(52 - l)) a
  rw [← Nat.pow_add,show l+(52 - l)=52 by omega,hk] at this;exact this
 have hk2:k<9007199254740992:=by
  have:=Nat.mul_lt_mul_of_pos_right b (Nat.two_pow_pos (52 - l))
  rw [← Nat.pow_add,show l+1+(52 - l)=53 by omega,hk] at this;exact this
 obtain⟨h1,h2⟩:=tL (q:=E+l - 52) hk1 hk2
 refine⟨(E+l - 52)*4503599627370496+k,by omega,?_⟩
 unfold V
 rw [h1,h2,Int.natAbs_natCast,← hk,Nat.mul_assoc,← Nat.pow_add,show 52 - l+(E+l - 52)=E by omega]
theorem iF {j:Int} {E:Nat} (h1: -9007199254740992<j) (h2:j<9007199254740992) (hE:52≤E) (hE2:E≤1900):Rep (j*((2^E:Nat):Int)):=by
 obtain⟨r,hr,e⟩:=tM (m:=j.natAbs) (E:=E) (by omega) hE hE2
 refine⟨r,hr,?_⟩
 rw [Int.natAbs_natCast] at e
 rw [aW];exact e
theorem fC {k E:Nat} {T:Int} (hE:52≤E) (hE2:E≤1900) {G P:Int} (hG:G=((2^E:Nat):Int)) (hP:P=((2^k:Nat):Int)) (h1: -(2097152*(G*P))≤T) (h2:T≤2097152*(G*P)) :
  nD k T∧-(G*P)≤rI k T*P - T∧rI k T*P - T≤G*P:=by
 have hGp:0<G:=by rw [hG];have:=Nat.two_pow_pos E;omega
 have hPp:0<P:=by rw [hP];have:=Nat.two_pow_pos k;omega
 have hGP:0<G*P:=Int.mul_pos hGp hPp
 obtain⟨j,hj⟩:∃ j,T / (G*P)=j:=⟨_,rfl⟩
 have e1:j*(G*P)≤T:=by rw [← hj];exact Int.ediv_mul_le T (by omega)
 have e2:T<(j+1)*(G*P):=by rw [← hj];exact Int.lt_ediv_add_one_mul_self T hGP
 have j1: -2097152≤j:=by
  rw [← hj]
  refine (Int.le_ediv_iff_mul_le hGP).2 ?_
  rw [Int.neg_mul];exact h1
 have j2:j≤2097152:=by
  by_cases h:2097152<j
  ·have:=Int.mul_lt_mul_of_pos_right h hGP
   omega
  ·omega
 have rA:Rep (j*G):=by rw [hG];exact iF (by omega) (by omega) hE hE2
 have rB:Rep ((j+1)*G):=by rw [hG];exact iF (by omega) (by omega) hE hE2
 have f1:j*G*((2^k:Nat):Int)≤T:=by rw [← hP,Int.mul_assoc];exact e1
 have f2:T≤(j+1)*G*((2^k:Nat):Int):=by rw [← hP,Int.mul_assoc];omega
 have a1:=hH rA f1
 have a2:=eI rB f2
 have b1:=Int.mul_le_mul_of_nonneg_right a1 (show 0≤P by omega)
 have b2:=Int.mul_le_mul_of_nonneg_right a2 (show 0≤P by omega)
 rw [Int.mul_assoc] at b1 b2
 have e3:(j+1)*(G*P)=j*(G*P)+G*P:=by rw [Int.add_mul,Int.one_mul]
 rw [e3] at e2 b2
 exact⟨nE rA rB f1 f2,by omega,by omega⟩

structure Scale (K:Nat) (g:Int):Prop where
 k:K=1074
 pos:0<g
 unit:((2^K:Nat):Int)=1267650600228229401496703205376*g
 grid:((2^1064:Nat):Int)=1237940039285380274899124224*g
 at_:∀ q p:Nat,q+974=p→((2^p:Nat):Int)=((2^q:Nat):Int)*g
theorem fD {a b c:Nat} (h:a+b=c):((2^c:Nat):Int)=((2^a:Nat):Int)*((2^b:Nat):Int):=by
 subst h;rw [Nat.pow_add,Int.natCast_mul]
theorem yN:∃ K g,Scale K g:=by
 obtain⟨e,he⟩:∃ e,e=974:=⟨_,rfl⟩
 obtain⟨K,hK⟩:∃ K,K=1074:=⟨_,rfl⟩
 obtain⟨L,hL⟩:∃ L,L=1064:=⟨_,rfl⟩
 refine⟨K,((2^e:Nat):Int),hK,by have:=Nat.two_pow_pos e;omega,?_,?_,fun q p h=>fD (by omega)⟩
 ·rw [fD (a:=100) (b:=e) (c:=K) (by omega)];rfl
 ·rw [← hL,fD (a:=90) (b:=e) (c:=L) (by omega)];rfl

theorem tN {K:Nat} {g:Int} (hs:Scale K g) {x y:Nat} (hx:ab x) (hy:ab y) (h1: -(2596148429267413814265248164610048*g)≤vI x+vI y) (h2:vI x+vI y≤2596148429267413814265248164610048*g) :
  ∃ z,floatBits .add .f64 x y=some z∧ab z∧z<18446744073709551616∧-(1237940039285380274899124224*g)≤vI z - (vI x+vI y)∧vI z - (vI x+vI y)≤1237940039285380274899124224*g:=by
 obtain⟨E,hE⟩:∃ E,E=1064:=⟨_,rfl⟩
 have hg:=hs.grid
 rw [← hE] at hg
 obtain⟨f,a,b⟩:=fC (k:=0) (E:=E) (T:=vI x+vI y) (by omega) (by omega) (P:=1) rfl rfl (by rw [hg];omega) (by rw [hg];omega)
 obtain⟨z,z1,z2,z3,z4⟩:=jZ hx hy f
 rw [hg] at a b
 rw [← z4] at a b
 exact⟨z,z1,z2,z3,by omega,by omega⟩
theorem mh {K:Nat} {g:Int} (hs:Scale K g) {x y:Nat} (hx:ab x) (hy:ab y) (h1: -(2596148429267413814265248164610048*g)≤vI x - vI y) (h2:vI x - vI y≤2596148429267413814265248164610048*g) :
  ∃ z,floatBits .sub .f64 x y=some z∧ab z∧z<18446744073709551616∧-(1237940039285380274899124224*g)≤vI z - (vI x - vI y)∧vI z - (vI x - vI y)≤1237940039285380274899124224*g:=by
 obtain⟨E,hE⟩:∃ E,E=1064:=⟨_,rfl⟩
 have hg:=hs.grid
 rw [← hE] at hg
 obtain⟨f,a,b⟩:=fC (k:=0) (E:=E) (T:=vI x - vI y) (by omega) (by omega) (P:=1) rfl rfl (by rw [hg];omega) (by rw [hg];omega)
 obtain⟨z,z1,z2,z3,z4⟩:=qZ hx hy f
 rw [hg] at a b
 rw [← z4] at a b
 exact⟨z,z1,z2,z3,by omega,by omega⟩
theorem iG {K:Nat} {g:Int} (hs:Scale K g) {x y:Nat} {c:Int} (hx:ab x) (hy:ab y) (hc:vI y=c*g) (h1: -(3291009114642412084309938365114701009965471731267159726697218048*g)≤c*vI x) (h2:c*vI x≤3291009114642412084309938365114701009965471731267159726697218048*g) :
  ∃ z,floatBits .mul .f64 x y=some z∧ab z∧z<18446744073709551616∧-(1569275433846670190958947355801916604025588861116008628224*g)≤1267650600228229401496703205376*vI z - c*vI x∧1267650600228229401496703205376*vI z - c*vI x≤1569275433846670190958947355801916604025588861116008628224*g:=by
 obtain⟨E,hE⟩:∃ E,E=1064:=⟨_,rfl⟩
 have hg:=hs.grid
 rw [← hE] at hg
 have hgp:=hs.pos
 have eT:vI x*vI y=(c*vI x)*g:=by rw [hc,← Int.mul_assoc,Int.mul_comm (vI x) c]
 have eGP:((2^E:Nat):Int)*((2^K:Nat):Int)=(1569275433846670190958947355801916604025588861116008628224*g)*g:=by
  rw [hg,hs.unit,← Int.mul_assoc,show (1237940039285380274899124224*g*1267650600228229401496703205376:Int)=1569275433846670190958947355801916604025588861116008628224*g by omega]
 have b1:=Int.mul_le_mul_of_nonneg_right h1 (show 0≤g by omega)
 have b2:=Int.mul_le_mul_of_nonneg_right h2 (show 0≤g by omega)
 have e3:(2097152:Int)*(1569275433846670190958947355801916604025588861116008628224*g*g)=3291009114642412084309938365114701009965471731267159726697218048*g*g:=by rw [← Int.mul_assoc,← Int.mul_assoc];rfl
 rw [Int.neg_mul] at b1
 obtain⟨f,a,b⟩:=fC (k:=K) (E:=E) (T:=vI x*vI y) (by omega) (by omega) rfl rfl (by rw [eGP,e3,eT];exact b1) (by rw [eGP,e3,eT];exact b2)
 obtain⟨z,z1,z2,z3,z4⟩:=kc hs.k hx hy f
 rw [eGP,eT,← eT,← z4,eT,hs.unit,← Int.mul_assoc,Int.mul_comm (vI z),← Int.sub_mul] at a b
 refine⟨z,z1,z2,z3,?_,?_⟩
 ·rw [← Int.neg_mul] at a
  exact Int.le_of_mul_le_mul_right a hgp
 ·exact Int.le_of_mul_le_mul_right b hgp
end Go.Proofs.YtbokkedmfolfdaaGreat
namespace Go.Proofs.YtbokkedmfolfdaaGreat
open Go.RowKit

set_option maxHeartbeats 400000 in
theorem az (b:Nat) (w:World) (h:U64 b) :
  Calls Tryz.prog 63 #[.float .f64 b] w fun e w'=>e=.returned (.bool (af b))∧w'=w:=by
 have h1:(FloatKind.f64.format.order b b !=some .eq)=af b:=by rw [bne,vG h,Bool.not_not]
 clear h
 go_enter Tryz.func63,Tryz.ntmps63
 go_wp2
 go_ret
 exact⟨rfl,rfl⟩

theorem iH (x y:Int):(compare x y==.gt)=decide (y<x):=by
 show (compareOfLessAndEq x y==.gt)=_
 unfold compareOfLessAndEq
 by_cases a:x<y
 ·have:¬ y<x:=by omega
  simp [a,this]
 ·by_cases b:x=y
  ·simp [b]
  ·have:y<x:=by omega
   simp [a,b,this]
theorem eM {a b:Nat} (ha:U64 a) (hb:U64 b) (hna:af a=false) (hnb:af b=false):(FloatKind.f64.format.order a b==some .gt)=decide (aa b<aa a):=by
 rw [dU (by have:=ha.2;omega) (by have:=hb.2;omega) hna hnb,← iH];rfl

theorem kZ {r:Nat} (h:r≤9218868437227405312):af (r:Int)=false:=by unfold af szI;rw [decide_eq_false_iff_not];omega
theorem mi {r:Nat} (h:r≤9218868437227405312):aa (r:Int)=r:=by
 unfold aa
 have hs:sgB (r:Int)=false:=by unfold sgB;rw [decide_eq_false_iff_not];omega
 rw [kZ h,hs]
 show szI (r:Int)=r
 unfold szI;omega
theorem szN (x:Nat):szI (x:Int)=((x % 9223372036854775808:Nat):Int):=by unfold szI;omega
theorem lc {x:Nat} (h:af (x:Int)=false):(FloatKind.f64.format.order (x % 9223372036854775808) 9218868437227405311==some .gt)=!aD (x:Int):=by
 have h1:=bX h
 have e:aD (x:Int)=decide (x % 9223372036854775808<9218868437227405312):=by
  unfold aD;rw [szN];exact decide_eq_decide.2 (by omega)
 rw [e]
 generalize x % 9223372036854775808=a at *
 rw [eM (aI (by omega)) (aI (by omega)) (kZ h1) (kZ (r:=9218868437227405311) (by omega)),mi h1,mi (r:=9218868437227405311) (by omega)]
 by_cases c:a<9218868437227405312
 ·rw [decide_eq_true c];exact decide_eq_false (by omega)
 ·rw [decide_eq_false c];exact decide_eq_true (by omega)

theorem gJ {x:Nat} (h:af (x:Int)=true):aD (x:Int)=false:=by
 unfold af at h;unfold aD
 have:=of_decide_eq_true h
 exact decide_eq_false (by omega)

set_option maxHeartbeats 400000 in
theorem tO (x:Nat) (w:World) (h:U64 x) :
  Calls Tryz.prog 84 #[.float .f64 x] w fun e w'=>e=.returned (.float .f64 (x % 9223372036854775808))∧w'=w:=by
 have h1:=jB
 have h2:=aQ
 have h3:=jA h
 have h4:(szI (x:Int)).toNat=x % 9223372036854775808:=by rw [szN];rfl
 clear h
 go_enter Tryz.func84,Tryz.ntmps84
 go_wp2
 go_ret
 exact⟨rfl,rfl⟩

set_option maxHeartbeats 400000 in
theorem el (x:Nat) (g:Bool) (w:World) (h:U64 x) (hg:(FloatKind.f64.format.order (x % 9223372036854775808) 9218868437227405311==some .gt)=g) :
  Calls Tryz.prog 64 #[.float .f64 x,.int .i64 0] w fun e w'=>e=.returned (.bool g)∧w'=w:=by
 have H:=hideS fun w=>tO x w h
 clear h
 generalize x % 9223372036854775808=a at *
 go_enter Tryz.func64,Tryz.ntmps64
 go_wp2_with fail
 refine (H.out _).mono ?_
 rintro e w' ⟨rfl,rfl⟩
 go_wp2_with fail
 go_ret
 exact⟨rfl,rfl⟩

end Go.Proofs.YtbokkedmfolfdaaGreat
namespace Go.Proofs.YtbokkedmfolfdaaGreat
open Go.RowKit

set_option maxHeartbeats 400000 in
theorem pG (k h l:Nat) (w:World) (h1:floatBits .mul .f64 k 4604418534311723008=some h) (h2:floatBits .mul .f64 k 4461442080421002358=some l) :
  Calls Tryz.prog 109 #[.float .f64 k] w fun e w'=>e=.returned (.tuple #[.float .f64 h,.float .f64 l])∧w'=w:=by
 have r1:=fun w=>run_float_arith (P:=Tryz.prog) w .mul 34 .f64 _ _ _ h1
 have r2:=fun w=>run_float_arith (P:=Tryz.prog) w .mul 34 .f64 _ _ _ h2
 clear h1 h2
 go_enter Tryz.func109,Tryz.ntmps109
 go_wp2
 go_ret2
 exact⟨rfl,rfl⟩

set_option maxHeartbeats 400000 in
theorem wD (w:World) :
  Calls Tryz.prog 46 #[.int .i64 1] w fun e w'=>e=.returned (.float .f64 9218868437227405312)∧w'=w:=by
 have h2:=aQ
 go_enter Tryz.func46,Tryz.ntmps46
 go_wp2
 go_ret
 exact⟨rfl,rfl⟩

set_option maxHeartbeats 400000 in
theorem wE (x:Nat) (w:World) (h:U64 x) (hn:af x=true) :
  Calls Tryz.prog 102 #[.float .f64 x] w fun e w'=>e=.returned (.float .f64 x)∧w'=w:=by
 have H:=hideS (az x w h)
 rw [hn] at H
 clear h hn
 go_enter Tryz.func102,Tryz.ntmps102
 go_wp2_with fail
 refine H.out.mono ?_
 rintro e w' ⟨rfl,rfl⟩
 go_wp2_with fail
 go_ret
 exact⟨rfl,rfl⟩

set_option maxHeartbeats 400000 in
theorem xK (x:Nat) (g e:Bool) (w:World) (h:U64 x) (hn:af x=false) (hg:(FloatKind.f64.format.order x 4649456441864749056==some .gt)=g) (he:(FloatKind.f64.format.order x 4649456441864749056==some .eq)=e) (hge:(g||e)=true) :
  Calls Tryz.prog 102 #[.float .f64 x] w fun e w'=>e=.returned (.float .f64 9218868437227405312)∧w'=w:=by
 have H:=hideS (az x w h)
 rw [hn] at H
 clear h hn
 cases g<;>cases e<;>first | (cases hge;done) | skip
 all_goals
  clear hge
  go_enter Tryz.func102,Tryz.ntmps102
  go_wp2_with fail
  refine H.out.mono ?_
  rintro e w' ⟨rfl,rfl⟩
  go_wp2_with fail
  refine (wD _).mono ?_
  rintro e w' ⟨rfl,rfl⟩
  go_wp2_with fail
  go_ret
  exact⟨rfl,rfl⟩

set_option maxHeartbeats 400000 in
theorem xM (x:Nat) (g e:Bool) (w:World) (h:U64 x) (hn:af x=false) (hg1:(FloatKind.f64.format.order x 4649456441864749056==some .gt)=false) (he1:(FloatKind.f64.format.order x 4649456441864749056==some .eq)=false)
  (hg:(FloatKind.f64.format.order x 13873145138068324352==some .lt)=g) (he:(FloatKind.f64.format.order x 13873145138068324352==some .eq)=e) (hge:(g||e)=true) :
  Calls Tryz.prog 102 #[.float .f64 x] w fun e w'=>e=.returned (.float .f64 0)∧w'=w:=by
 have H:=hideS (az x w h)
 rw [hn] at H
 clear h hn
 cases g<;>cases e<;>first | (cases hge;done) | skip
 all_goals
  clear hge
  go_enter Tryz.func102,Tryz.ntmps102
  go_wp2_with fail
  refine H.out.mono ?_
  rintro e w' ⟨rfl,rfl⟩
  go_wp2_with fail
  go_ret
  exact⟨rfl,rfl⟩

set_option maxRecDepth 20000 in
set_option maxHeartbeats 1600000 in
theorem wF (x y t f hi lo d r p:Nat) (k:Int) (w:World) (h:U64 x) (hn:af x=false) (hg1:(FloatKind.f64.format.order x 4649456441864749056==some .gt)=false) (he1:(FloatKind.f64.format.order x 4649456441864749056==some .eq)=false)
  (hg2:(FloatKind.f64.format.order x 13873145138068324352==some .lt)=false) (he2:(FloatKind.f64.format.order x 13873145138068324352==some .eq)=false)
  (q1:floatBits .mul .f64 x 4609176140021203710=some y) (q2:floatBits .add .f64 y 4602678819172646912=some t) (hf:Hid (∀ w,Calls Tryz.prog 108 #[.float .f64 t] w fun e w'=>e=.returned (.float .f64 f)∧w'=w))
  (q3:floatBits .mul .f64 f 4604418534311723008=some hi) (q4:floatBits .mul .f64 f 4461442080421002358=some lo) (q5:floatBits .sub .f64 x hi=some d) (q6:floatBits .sub .f64 d lo=some r)
  (q7:Hid (bC expL r=some p)) (up:Hid (U64 p)) (q8:floatToIntVal .f64 f .i64=some k) (hk: -2000≤k∧k≤2000) (hsp: -2000≤aB p∧aB p≤2000) (hsm: -9223372036854775808≤ar p∧ar p≤9223372036854775807) :
  Calls Tryz.prog 102 #[.float .f64 x] w fun e w'=>e=.returned (.float .f64 (aw (ar p) (aB p+k)))∧Below w.heap.size w w':=by
 have H:=hideS (az x w h)
 rw [hn] at H
 have r1:=fun w=>run_float_arith (P:=Tryz.prog) w .mul 34 .f64 _ _ _ q1
 have r2:=fun w=>run_float_arith (P:=Tryz.prog) w .add 34 .f64 _ _ _ q2
 have r5:=fun w=>run_float_arith (P:=Tryz.prog) w .sub 34 .f64 _ _ _ q5
 have r6:=fun w=>run_float_arith (P:=Tryz.prog) w .sub 34 .f64 _ _ _ q6
 have r8:=fun w=>run_convert_float_int (P:=Tryz.prog) w 34 3 .f64 .i64 f k (by kernel_rfl) Tryz.underlying3 q8
 have HL:Hid (∀ w,Calls Tryz.prog 109 #[.float .f64 f] w fun e w'=>e=.returned (.tuple #[.float .f64 hi,.float .f64 lo])∧w'=w):=fun w=>pG f hi lo w q3 q4
 have HSp:Hid (∀ w,Calls Tryz.prog 36 #[.float .f64 p] w fun e w'=>e=.returned (.tuple #[.int .i64 (ar p),.int .i64 (aB p),.bool (av p)])∧w'=w):=fun w=>ce p p w rfl up.out
 have HJ:Hid (∀ w,Calls Tryz.prog 52 #[.int .i64 (ar p),.int .i64 (aB p+k)] w fun e w'=>e=.returned (.float .f64 (aw (ar p) (aB p+k)))∧∃ n,w'=w.drewN n):=fun w=>aP _ _ w hsm.1 hsm.2
 clear h hn q1 q2 q3 q4 q5 q6 q8 hsm
 generalize aw (ar p) (aB p+k)=res at HJ
 generalize ar p=sm at HJ HSp
 generalize aB p=se at HJ HSp hsp
 generalize av p=so at HSp
 go_enter Tryz.func102,Tryz.ntmps102
 go_wp2_with fail
 refine (turned H.out).mono ?_
 rintro e w' ⟨rfl,rfl⟩
 clear H
 go_wp2_with fail
 refine (turned (hf.out _)).mono ?_
 rintro e w' ⟨rfl,rfl⟩
 go_wp2_with fail
 refine (turned (HL.out _)).mono ?_
 rintro e w' ⟨rfl,rfl⟩
 go_wp2_with fail
 have HT:=hideS (kW w)
 refine HT.out.mono ?_
 rintro e w1 ⟨rfl,hs,hb⟩
 have HB:=hideS hb
 have HH:Hid (Calls Tryz.prog 110 #[.slice (some ⟨w.heap.size,0,none⟩) 14 14,.float .f64 r] w1 fun e w'=>∃ r',e=.returned (.float .f64 r')∧Ag (bC expL r) r'∧∃ q,w'=w1.drewN q):=ib _ _ _ 14 r 14 expL w1 hs rfl (by decide)
 rw [q7.out] at HH
 clear hs hb HT
 go_wp2_with fail
 refine HH.out.mono ?_
 rintro e w2 ⟨r',rfl,hag,q,rfl⟩
 obtain rfl:=bq hag
 go_wp2_with fail
 refine (turned (HSp.out _)).mono ?_
 rintro e w' ⟨rfl,rfl⟩
 go_wp2_with fail
 refine (HJ.out _).mono ?_
 rintro e w' ⟨rfl,q',rfl⟩
 go_wp2_with fail
 go_ret
 exact⟨rfl,⟨HB.out.os,HB.out.tape,HB.out.output,HB.out.size,HB.out.block⟩⟩
end Go.Proofs.YtbokkedmfolfdaaGreat
