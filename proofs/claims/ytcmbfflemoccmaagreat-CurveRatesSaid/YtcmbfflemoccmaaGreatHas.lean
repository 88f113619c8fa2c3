/-  -/
import Derived.Test.YtcmbfflemoccmaaGreatHar
import Derived.WalkKit
import Derived.LoopTactic
import Derived.BigCall
import Derived.BigQuiet
import Derived.Maps.AppendAt
import Derived.Laws.OwnMore
import Derived.Deep.OwnRows
namespace Go.Proofs.YtcmbfflemoccmaaGreat
open Go.RowKit

theorem hideS {p:Prop} (h:p):Hid p:=h
theorem turned {P:Program} {f:Nat} {args:Array Value} {w:World} {Q:Ending→Prop} (h:Calls P f args w fun e w'=>Q e∧w'=w):Calls P f args w fun e w'=>Q e∧w=w':=
 h.mono fun _ _ ⟨a,b⟩=>⟨a,b.symm⟩
theorem infoU:(Tryz.prog.info? 51).map (fun i=>(i.zero,i.size,i.bytes))=some (some (.int .u64 0),1,8):=by kernel_rfl
theorem own_below {w w':World} {B e size n:Nat} {v:Value} {xs:List Value} (h:w.ownsRow B e size v n xs) (hb:Below w.heap.size w w'):w'.ownsRow B e size v n xs:=by
 refine⟨h.1,?_⟩
 rcases h.2 with hn | ⟨g,cap,cur,rfl,hg,hgg,rest⟩
 ·exact .inl hn
 ·exact .inr ⟨g,cap,cur,rfl,hg,by rw [hb.block g (Array.getElem?_eq_some_iff.1 hgg).1];exact hgg,rest⟩

def uV (x:Nat):Value:=.int .u64 (x:Int)
def fV (x:Nat):Value:=.float .f64 x
theorem getD_some {l:List Nat} {i:Nat} (hi:i<l.length):l[i]? =some (l.getD i 0):=by simp [List.getD,List.getElem?_eq_getElem hi]
def rowOf (f:Nat→Value) (l:List Nat) (k:Nat):List Value:=(l.take k).map f
theorem take_next {f:Nat→Value} {l:List Nat} {k:Nat} (hk:k<l.length):rowOf f l (k+1)=rowOf f l k++[f (l.getD k 0)]:=by
 unfold rowOf
 rw [List.take_add_one,getD_some hk,List.map_append];rfl
theorem rowOf_all (f:Nat→Value) (l:List Nat):rowOf f l l.length=l.map f:=by unfold rowOf;rw [List.take_length]

structure Src (w:World) (p:Option Addr) (b off:Nat) (xs:List Nat):Prop where
 at_:0<xs.length→p=some ⟨b,off,none⟩
 lt:0<xs.length→b<w.heap.size
 cell:∀ j,j<xs.length→w.cell? ⟨b,off+j,none⟩=some (.float .f64 (xs.getD j 0))
theorem Src.below {w w':World} {p:Option Addr} {b off:Nat} {xs:List Nat} (h:Src w p b off xs) (hb:Below w.heap.size w w'):Src w' p b off xs:=
 ⟨h.at_,fun hx=>Nat.lt_of_lt_of_le (h.lt hx) hb.size,fun j hj=>(hb.cell (p:=⟨b,off+j,none⟩) (h.lt (by omega))).trans (h.cell j hj)⟩

structure OwnF (w:World) (B t:Nat) (f:Nat→Value) (v:Value) (xs:List Nat):Prop where
 own:w.ownsRow B t 1 v xs.length (xs.map f)
theorem OwnF.below {w w':World} {B t:Nat} {f:Nat→Value} {v:Value} {xs:List Nat} (h:OwnF w B t f v xs) (hb:Below w.heap.size w w'):OwnF w' B t f v xs:=⟨own_below h.own hb⟩
theorem OwnF.shape {w:World} {B t:Nat} {f:Nat→Value} {v:Value} {xs:List Nat} (h:OwnF w B t f v xs) :
  ∃ p g c,v=.slice p xs.length c∧(0<xs.length→p=some ⟨g,0,none⟩ ∧B≤g∧g<w.heap.size)∧∀ j,j<xs.length→w.cell? ⟨g,j,none⟩=some (f (xs.getD j 0)):=by
 rcases h.own.2 with⟨hv,hn⟩| ⟨g,cap,cur,hv,hb,hg,_⟩
 ·exact⟨none,0,0,by rw [hv,hn],fun h0=>by omega,fun j hj=>by omega⟩
 ·refine⟨some ⟨g,0,none⟩,g,cap,hv,fun _=>⟨rfl,hb,(Array.getElem?_eq_some_iff.1 hg).1⟩,fun j hj=>?_⟩
  have h2:=h.own
  rw [hv] at h2
  rw [h2.cellAt j (by omega),List.getElem?_map,getD_some hj];rfl
end Go.Proofs.YtcmbfflemoccmaaGreat
namespace Go.Proofs.YtcmbfflemoccmaaGreat
open Go.RowKit

def nB (f:Nat) (u z:Int):Prop:=∀ w,Calls Tryz.prog f #[.int .u64 u] w fun e w'=>e=.returned (.int .u64 z)∧Below w.heap.size w w'
def kA (f:Nat) (u v z:Int):Prop:=∀ w,Calls Tryz.prog f #[.int .u64 u,.int .u64 v] w fun e w'=>e=.returned (.int .u64 z)∧Below w.heap.size w w'
def nC (f:Nat) (n z:Int):Prop:=∀ w,Calls Tryz.prog f #[.int .i64 n] w fun e w'=>e=.returned (.int .u64 z)∧Below w.heap.size w w'
def ltB (u v:Int):Bool:=!ah u&&!ah v&&decide (ae u<ae v)
def finB (u:Int):Bool:=decide (szI u<9218868437227405312)
def lO (k:Int):Int:=if k=2 then 1 else if k=3 then 2 else if k=4 then 4 else if k=5 then 12 else 0
def kc (f:Int):Int:=if finB f=true then f else 0
def dz (f:Int):Int:=if finB f=true then 0 else 91

set_option maxHeartbeats 800000 in
theorem eR (u v:Int) (w:World) (h:U64 u) (h':U64 v) :
  Calls Tryz.prog 32 #[.int .u64 u,.int .u64 v] w fun e w'=>e=.returned (.bool (ltB u v))∧w'=w:=by
 have H1:=hideS fun w=>fS u w h
 have H2:=hideS fun w=>fS v w h'
 unfold ltB
 generalize ae u=a at *
 generalize ae v=c at *
 generalize ah u=m at *
 generalize ah v=n at *
 clear h h'
 go_enter Tryz.func32,Tryz.ntmps32
 go_wp2_with fail
 refine (H1.out _).mono ?_
 rintro e w' ⟨rfl,rfl⟩
 go_wp2_with fail
 refine (H2.out _).mono ?_
 rintro e w' ⟨rfl,rfl⟩
 cases m<;>cases n
 all_goals go_wp2_with fail
 all_goals go_ret
 all_goals exact⟨by simp,rfl⟩

set_option maxHeartbeats 400000 in
theorem aI (u:Int) (w:World) (h:U64 u) :
  Calls Tryz.prog 31 #[.int .u64 u] w fun e w'=>e=.returned (.bool (finB u))∧w'=w:=by
 have hz:=dy h
 unfold finB
 go_enter Tryz.func31,Tryz.ntmps31
 go_wp2
 go_ret
 exact⟨rfl,rfl⟩

set_option maxHeartbeats 400000 in
theorem dV (k:Int) (w:World) :
  Calls Tryz.prog 70 #[.int .i64 k] w fun e w'=>e=.returned (.bool (decide (1≤k∧k≤6)))∧w'=w:=by
 by_cases h1:1≤k
 ·by_cases h2:k≤6
  ·rw [decide_eq_true (⟨h1,h2⟩:1≤k∧k≤6)]
   go_enter Tryz.func70,Tryz.ntmps70
   go_wp2
   go_ret
   exact⟨by simp,rfl⟩
  ·rw [decide_eq_false (fun a:1≤k∧k≤6=>h2 a.2)]
   go_enter Tryz.func70,Tryz.ntmps70
   go_wp2
   go_ret
   exact⟨by simp,rfl⟩
 ·rw [decide_eq_false (fun a:1≤k∧k≤6=>h1 a.1)]
  go_enter Tryz.func70,Tryz.ntmps70
  go_wp2
  go_ret
  exact⟨rfl,rfl⟩

set_option maxHeartbeats 800000 in
theorem gQ (k:Int) (w:World) (h:1≤k∧k≤6) :
  Calls Tryz.prog 73 #[.int .i64 k] w fun e w'=>e=.returned (.int .i64 (lO k))∧w'=w:=by
 rcases (show k=1∨k=2∨k=3∨k=4∨k=5∨k=6 by omega) with rfl | rfl | rfl | rfl | rfl | rfl
 all_goals
  go_enter Tryz.func73,Tryz.ntmps73
  go_wp2
  go_ret
  exact⟨rfl,rfl⟩

set_option maxHeartbeats 400000 in
theorem aS (u:Int) (w:World) (h:U64 u) :
  Calls Tryz.prog 67 #[.int .u64 u] w fun e w'=>e=.returned (.bool (ltB 0 u))∧w'=w:=by
 have H:=hideS fun w=>eR 0 u w (by unfold U64;omega) h
 generalize ltB 0 u=B at *
 clear h
 go_enter Tryz.func67,Tryz.ntmps67
 go_wp2_with fail
 refine (H.out _).mono ?_
 rintro e w' ⟨rfl,rfl⟩
 go_wp2_with fail
 go_ret
 exact⟨rfl,rfl⟩

set_option maxHeartbeats 400000 in
theorem fT (u:Int) (w:World) (h:U64 u) (HI:Hid (nC 72 1048576 4697254411347427328)) :
  Calls Tryz.prog 71 #[.int .u64 u] w fun e w'=>e=.returned (.bool (ltB 4697254411347427328 u))∧Below w.heap.size w w':=by
 have H:=hideS fun w=>eR 4697254411347427328 u w (by unfold U64;omega) h
 generalize ltB 4697254411347427328 u=B at *
 clear h
 go_enter Tryz.func71,Tryz.ntmps71
 go_wp2_with fail
 refine (HI.out _).mono ?_
 rintro e w1 ⟨rfl,hb⟩
 go_wp2_with fail
 refine (H.out _).mono ?_
 rintro e w' ⟨rfl,rfl⟩
 go_wp2_with fail
 go_ret
 exact⟨rfl,hb⟩
end Go.Proofs.YtcmbfflemoccmaaGreat
namespace Go.Proofs.YtcmbfflemoccmaaGreat
open Go.RowKit

def eJ (kind:Int) (xs:List Int) (ys:List Nat) (i:Nat):Bool:=
 decide (xs.getD i 0<0)||decide (109572<xs.getD i 0)||(decide (0<i)&&decide (xs.getD i 0≤xs.getD (i - 1) 0))||!finB (ys.getD i 0:Nat)||(decide (kind=4)&&!ltB 0 (ys.getD i 0:Nat))
structure OkT (kind:Int) (xs:List Int) (ys:List Nat):Prop where
 k1:1≤kind
 k4:kind≤4
 lo:1≤xs.length
 hi:xs.length≤256
 len:ys.length=xs.length
 node:∀ i<xs.length,eJ kind xs ys i=false
inductive TabR (kind:Int) (xs:List Int) (ys:List Nat):Int→Prop
 | ok (h:OkT kind xs ys):TabR kind xs ys 0
 | kind (h:kind<1∨4<kind):TabR kind xs ys 90
 | len (h1:1≤kind) (h4:kind≤4) (h:xs.length<1∨256<xs.length∨ys.length≠xs.length):TabR kind xs ys 100
 | node (h1:1≤kind) (h4:kind≤4) (lo:1≤xs.length) (hi:xs.length≤256) (len:ys.length=xs.length) (K:Nat) (hK:K<xs.length) (bad:eJ kind xs ys K=true) (fine:∀ i<K,eJ kind xs ys i=false):TabR kind xs ys 100
theorem eS {p:Nat→Bool}:∀ N,(∃ i<N,p i=true)→∃ k<N,p k=true∧∀ j<k,p j=false
 | 0,⟨i,hi,_⟩=>by omega
 | N+1,⟨i,hi,hp⟩=>by
  by_cases h:∃ i<N,p i=true
  ·obtain⟨k,hk,h1,h2⟩:=eS N h
   exact⟨k,by omega,h1,h2⟩
  ·have hN:i=N:=Classical.byContradiction fun c=>h ⟨i,by omega,hp⟩
   subst hN
   exact⟨i,by omega,hp,fun j hj=>by
    cases hc:p j
    ·rfl
    ·exact absurd ⟨j,hj,hc⟩ h⟩
theorem Ju (kind:Int) (xs:List Int) (ys:List Nat):∃ E,TabR kind xs ys E:=by
 by_cases hk:kind<1∨4<kind
 ·exact⟨90,.kind hk⟩
 ·by_cases hl:xs.length<1∨256<xs.length∨ys.length≠xs.length
  ·exact⟨100,.len (by omega) (by omega) hl⟩
  ·by_cases hb:∃ i<xs.length,eJ kind xs ys i=true
   ·obtain⟨K,hK,h1,h2⟩:=eS _ hb
    exact⟨100,.node (by omega) (by omega) (by omega) (by omega) (by omega) K hK h1 h2⟩
   ·exact⟨0,.ok ⟨by omega,by omega,by omega,by omega,by omega,fun i hi=>by
     cases hc:eJ kind xs ys i
     ·rfl
     ·exact absurd ⟨i,hi,hc⟩ hb⟩⟩
theorem an {kind:Int} {xs:List Int} {ys:List Nat} {i:Nat} (h:eJ kind xs ys i=false):0≤xs.getD i 0∧xs.getD i 0≤109572∧(0<i→xs.getD (i - 1) 0<xs.getD i 0)∧finB (ys.getD i 0:Nat)=true∧(kind=4→ltB 0 (ys.getD i 0:Nat)=true):=by
 unfold eJ at h
 simp only [Bool.or_eq_false_iff,Bool.and_eq_false_iff,decide_eq_false_iff_not,Bool.not_eq_false'] at h
 obtain⟨⟨⟨⟨a,b⟩,c⟩,d⟩,e⟩:=h
 refine⟨by omega,by omega,fun hi=>?_,d,fun hk=>?_⟩
 ·rcases c with c | c<;>omega
 ·rcases e with e | e
  ·exact absurd hk e
  ·exact e
theorem OkT.step {kind:Int} {xs:List Int} {ys:List Nat} (h:OkT kind xs ys) {i:Nat} (hi:i+1<xs.length):xs.getD i 0<xs.getD (i+1) 0:=by
 have:=(an (h.node (i+1) hi)).2.2.1 (by omega)
 simpa using this
theorem OkT.rise {kind:Int} {xs:List Int} {ys:List Nat} (h:OkT kind xs ys) {i j:Nat} (hij:i<j) (hj:j<xs.length):xs.getD i 0<xs.getD j 0:=by
 obtain⟨d,rfl⟩:∃ d,j=i+1+d:=⟨j - i - 1,by omega⟩
 induction d with
 | zero=>exact h.step (by omega)
 | succ d ih=>
  have a:=ih (by omega) (by omega)
  have b:=h.step (i:=i+1+d) (by omega)
  exact Int.lt_trans a b
structure FindR (xs:List Int) (x:Int) (k:Nat):Prop where
 lt:k<xs.length
 le:xs.getD k 0≤x
 gt:k+1<xs.length→x<xs.getD (k+1) 0
theorem Jv {xs:List Int} {x:Int} (hlo:0<xs.length) (h0:xs.getD 0 0≤x):∃ k,FindR xs x k∧∀ j<k,j+1<xs.length∧xs.getD (j+1) 0≤x:=by
 by_cases hb:∃ i<xs.length,decide (i+1<xs.length→x<xs.getD (i+1) 0)=true
 ·obtain⟨k,hk,h1,h2⟩:=eS (p:=fun i=>decide (i+1<xs.length→x<xs.getD (i+1) 0)) _ hb
  have h3:∀ j<k,j+1<xs.length∧xs.getD (j+1) 0≤x:=fun j hj=>by
   have:=h2 j hj
   rw [decide_eq_false_iff_not] at this
   obtain⟨a,b⟩:=Classical.not_imp.1 this
   exact⟨a,by omega⟩
  refine⟨k,⟨hk,?_,of_decide_eq_true h1⟩,h3⟩
  by_cases hz:k=0
  ·rw [hz];exact h0
  ·have:=(h3 (k - 1) (by omega)).2
   rwa [show k - 1+1=k by omega] at this
 ·exact absurd ⟨xs.length - 1,by omega,decide_eq_true (fun c=>by omega)⟩ hb
end Go.Proofs.YtcmbfflemoccmaaGreat
namespace Go.Proofs.YtcmbfflemoccmaaGreat
open Go.RowKit

def dC (base:Int) (ds:List Int):Nat→Int
 | 0=>base
 | k+1=>ds.getD k 0
def kB (base:Int) (ds:List Int) (fs:List Nat) (i:Nat):Bool:=decide (ds.getD i 0≤dC base ds i)||decide (109572<ds.getD i 0)||!finB (fs.getD i 0:Nat)||!ltB 0 (fs.getD i 0:Nat)
structure OkV (base kind:Int) (ds:List Int) (fs:List Nat):Prop where
 b0:0≤base
 b1:base≤109572
 k1:1≤kind
 k4:kind≤4
 lo:1≤ds.length
 hi:ds.length≤255
 len:fs.length=ds.length
 node:∀ i<ds.length,kB base ds fs i=false
inductive CurR (base kind:Int) (ds:List Int) (fs:List Nat):Int→Prop
 | ok (h:OkV base kind ds fs):CurR base kind ds fs 0
 | base (h:base<0∨109572<base):CurR base kind ds fs 51
 | kind (b0:0≤base) (b1:base≤109572) (h:kind<1∨4<kind):CurR base kind ds fs 90
 | len (b0:0≤base) (b1:base≤109572) (h1:1≤kind) (h4:kind≤4) (h:ds.length<1∨255<ds.length∨fs.length≠ds.length):CurR base kind ds fs 100
 | node (b0:0≤base) (b1:base≤109572) (h1:1≤kind) (h4:kind≤4) (lo:1≤ds.length) (hi:ds.length≤255) (len:fs.length=ds.length) (K:Nat) (hK:K<ds.length) (bad:kB base ds fs K=true) (fine:∀ i<K,kB base ds fs i=false):CurR base kind ds fs 100
theorem Jw (base kind:Int) (ds:List Int) (fs:List Nat):∃ E,CurR base kind ds fs E:=by
 by_cases hb:base<0∨109572<base
 ·exact⟨51,.base hb⟩
 ·by_cases hk:kind<1∨4<kind
  ·exact⟨90,.kind (by omega) (by omega) hk⟩
  ·by_cases hl:ds.length<1∨255<ds.length∨fs.length≠ds.length
   ·exact⟨100,.len (by omega) (by omega) (by omega) (by omega) hl⟩
   ·by_cases hb:∃ i<ds.length,kB base ds fs i=true
    ·obtain⟨K,hK,h1,h2⟩:=eS _ hb
     exact⟨100,.node (by omega) (by omega) (by omega) (by omega) (by omega) (by omega) (by omega) K hK h1 h2⟩
    ·exact⟨0,.ok ⟨by omega,by omega,by omega,by omega,by omega,by omega,by omega,fun i hi=>by
      cases hc:kB base ds fs i
      ·rfl
      ·exact absurd ⟨i,hi,hc⟩ hb⟩⟩
theorem nQ {base kind:Int} {ds:List Int} {fs:List Nat} (h:CurR base kind ds fs 0):OkV base kind ds fs:=by
 generalize hE:(0:Int)=E at h
 cases h with
 | ok h=>exact h
 | base h=>cases hE
 | kind=>cases hE
 | len=>cases hE
 | node=>cases hE
theorem lP {base:Int} {ds:List Int} {fs:List Nat} {i:Nat} (h:kB base ds fs i=false):dC base ds i<ds.getD i 0∧ds.getD i 0≤109572∧finB (fs.getD i 0:Nat)=true∧ltB 0 (fs.getD i 0:Nat)=true:=by
 unfold kB at h
 simp only [Bool.or_eq_false_iff,decide_eq_false_iff_not,Bool.not_eq_false'] at h
 obtain⟨⟨⟨a,b⟩,c⟩,d⟩:=h
 exact⟨by omega,by omega,c,d⟩
def ctX (base:Int) (ds:List Int):List Int:=base::ds
def ctY (fs:List Nat):List Nat:=4607182418800017408::fs
theorem zj (base:Int) (ds:List Int) (i:Nat):(ctX base ds).getD i 0=dC base ds i:=by
 cases i<;>rfl
theorem OkV.pos {base kind:Int} {ds:List Int} {fs:List Nat} (h:OkV base kind ds fs):∀ i≤ds.length,0≤dC base ds i
 | 0,_=>h.b0
 | i+1,hi=>by
  have:=lP (h.node i (by omega))
  have:=OkV.pos h i (by omega)
  show 0≤ds.getD i 0
  omega
theorem OkV.top {base kind:Int} {ds:List Int} {fs:List Nat} (h:OkV base kind ds fs):∀ i≤ds.length,dC base ds i≤109572
 | 0,_=>h.b1
 | i+1,hi=>(lP (h.node i (by omega))).2.1
theorem OkV.table {base kind:Int} {ds:List Int} {fs:List Nat} (h:OkV base kind ds fs):OkT kind (ctX base ds) (ctY fs):=by
 refine⟨h.k1,h.k4,by simp [ctX],by have:=h.hi;simp [ctX];omega,by simp [ctX,ctY,h.len],fun i hi=>?_⟩
 have hi':i≤ds.length:=by have:i<ds.length+1:=hi;omega
 have p:=h.pos i hi'
 have t:=h.top i hi'
 unfold eJ
 rw [zj,decide_eq_false (show ¬ dC base ds i<0 by omega),decide_eq_false (show ¬ 109572<dC base ds i by omega)]
 cases i with
 | zero=>
  show (false||false||(decide (0<0)&&_)||!finB (4607182418800017408:Nat)||(decide (kind=4)&&!ltB 0 (4607182418800017408:Nat)))=false
  rw [show finB (4607182418800017408:Nat)=true by decide,show ltB 0 (4607182418800017408:Nat)=true by decide];simp
 | succ i=>
  obtain⟨a,b,c,d⟩:=lP (h.node i (by omega))
  have e1:(ctX base ds).getD (i+1 - 1) 0=dC base ds i:=by rw [Nat.add_sub_cancel,zj]
  have e2:(ctY fs).getD (i+1) 0=fs.getD i 0:=rfl
  have e3:dC base ds (i+1)=ds.getD i 0:=rfl
  rw [e1,e2,e3,c,d,decide_eq_false (show ¬ ds.getD i 0≤dC base ds i by omega)];simp
end Go.Proofs.YtcmbfflemoccmaaGreat
namespace Go.Proofs.YtcmbfflemoccmaaGreat
open Go.RowKit

structure VSrc (w:World) (p:Option Addr) (b off n:Nat) (f:Nat→Value):Prop where
 at_:0<n→p=some ⟨b,off,none⟩
 lt:0<n→b<w.heap.size
 cell:∀ j<n,w.cell? ⟨b,off+j,none⟩=some (f j)
theorem VSrc.below {w w':World} {p:Option Addr} {b off n:Nat} {f:Nat→Value} (h:VSrc w p b off n f) (hb:Below w.heap.size w w'):VSrc w' p b off n f:=
 ⟨h.at_,fun hx=>Nat.lt_of_lt_of_le (h.lt hx) hb.size,fun j hj=>(hb.cell (p:=⟨b,off+j,none⟩) (h.lt (by omega))).trans (h.cell j hj)⟩
def xV (xs:List Int) (j:Nat):Value:=.int .i64 (xs.getD j 0)
def yV (ys:List Nat) (j:Nat):Value:=.int .u64 (ys.getD j 0:Nat)
def flV (ys:List Nat) (j:Nat):Value:=.float .f64 (ys.getD j 0)
structure TBox (w:World) (kind:Int) (vx vy:Value) (wr:World):Prop where
 t0:wr.cell? ⟨w.heap.size,0,none⟩=some (.int .i64 kind)
 t1:wr.cell? ⟨w.heap.size,1,none⟩=some vx
 t2:wr.cell? ⟨w.heap.size,2,none⟩=some vy
 bl:Below w.heap.size w wr
 lt:w.heap.size<wr.heap.size
theorem bS (w:World) (kind:Int) (vx vy:Value):TBox w kind vx vy (w.alloc (.cells #[.int .i64 kind,vx,vy] 81)):=
 ⟨by simp,by simp,by simp,(Below.refl _ _).alloc (Nat.le_refl _) _,by simp⟩
theorem TBox.step {w wr w':World} {kind:Int} {vx vy:Value} (h:TBox w kind vx vy wr) (hb:Below wr.heap.size wr w'):TBox w kind vx vy w':=
 ⟨(hb.cell (p:=⟨w.heap.size,0,none⟩) h.lt).trans h.t0,(hb.cell (p:=⟨w.heap.size,1,none⟩) h.lt).trans h.t1,(hb.cell (p:=⟨w.heap.size,2,none⟩) h.lt).trans h.t2,h.bl.trans (hb.mono h.bl.size),Nat.lt_of_lt_of_le h.lt hb.size⟩
end Go.Proofs.YtcmbfflemoccmaaGreat
namespace Go.Proofs.YtcmbfflemoccmaaGreat
open Go.RowKit

structure VBox (w:World) (base kind:Int) (vd vf:Value) (wr:World):Prop where
 t0:wr.cell? ⟨w.heap.size,0,none⟩=some (.int .i64 base)
 t1:wr.cell? ⟨w.heap.size,1,none⟩=some (.int .i64 kind)
 t2:wr.cell? ⟨w.heap.size,2,none⟩=some vd
 t3:wr.cell? ⟨w.heap.size,3,none⟩=some vf
 bl:Below w.heap.size w wr
 lt:w.heap.size<wr.heap.size
theorem eL (w:World) (base kind:Int) (vd vf:Value):VBox w base kind vd vf (w.alloc (.cells #[.int .i64 base,.int .i64 kind,vd,vf] 32)):=
 ⟨by simp,by simp,by simp,by simp,(Below.refl _ _).alloc (Nat.le_refl _) _,by simp⟩
theorem cL (w:World) (base kind:Int) (vd vf:Value):VBox w base kind vd vf (w.alloc (.cells #[.int .i64 base,.int .i64 kind,vd,vf] 25)):=
 ⟨by simp,by simp,by simp,by simp,(Below.refl _ _).alloc (Nat.le_refl _) _,by simp⟩
theorem VBox.step {w wr w':World} {base kind:Int} {vd vf:Value} (h:VBox w base kind vd vf wr) (hb:Below wr.heap.size wr w'):VBox w base kind vd vf w':=
 ⟨(hb.cell (p:=⟨w.heap.size,0,none⟩) h.lt).trans h.t0,(hb.cell (p:=⟨w.heap.size,1,none⟩) h.lt).trans h.t1,(hb.cell (p:=⟨w.heap.size,2,none⟩) h.lt).trans h.t2,(hb.cell (p:=⟨w.heap.size,3,none⟩) h.lt).trans h.t3,h.bl.trans (hb.mono h.bl.size),Nat.lt_of_lt_of_le h.lt hb.size⟩
structure CSrcD (w:World) (pd pf:Option Addr) (bd od b2 o2:Nat) (ds:List Int) (fs:List Nat):Prop where
 d:VSrc w pd bd od ds.length (xV ds)
 f:VSrc w pf b2 o2 fs.length (yV fs)
 u:∀ i<fs.length,U64 (fs.getD i 0:Nat)
theorem CSrcD.below {w w':World} {pd pf:Option Addr} {bd od b2 o2:Nat} {ds:List Int} {fs:List Nat} (h:CSrcD w pd pf bd od b2 o2 ds fs) (hb:Below w.heap.size w w'):CSrcD w' pd pf bd od b2 o2 ds fs:=⟨h.d.below hb,h.f.below hb,h.u⟩

set_option maxRecDepth 20000 in
set_option maxHeartbeats 800000 in
theorem nD (base kind:Int) (vd vf:Value) (w:World) (h:base<0∨109572<base) :
  Calls Tryz.prog 11 #[.agg #[.int .i64 base,.int .i64 kind,vd,vf]] w fun e w'=>e=.returned (.int .i64 51)∧Below w.heap.size w w':=by
 have HB:=hideS (eL w base kind vd vf)
 rcases (show base<0∨(0≤base∧109572<base) by omega) with h1 | ⟨h1,h2⟩
 ·have d1:decide (base<0)=true:=decide_eq_true h1
  clear h h1
  go_enter Tryz.func11,Tryz.ntmps11
  go_wp2_with fail
  go_ret
  exact⟨rfl,HB.out.bl⟩
 ·have d1:decide (base<0)=false:=decide_eq_false (by omega)
  have d2:decide (109572<base)=true:=decide_eq_true h2
  clear h h1 h2
  go_enter Tryz.func11,Tryz.ntmps11
  go_wp2_with fail
  go_ret
  exact⟨rfl,HB.out.bl⟩
set_option maxRecDepth 20000 in
set_option maxHeartbeats 800000 in
theorem nE (base kind:Int) (vd vf:Value) (w:World) (b0:0≤base) (b1:base≤109572) (h:kind<1∨4<kind) :
  Calls Tryz.prog 11 #[.agg #[.int .i64 base,.int .i64 kind,vd,vf]] w fun e w'=>e=.returned (.int .i64 90)∧Below w.heap.size w w':=by
 have HB:=hideS (eL w base kind vd vf)
 have d1:decide (base<0)=false:=decide_eq_false (by omega)
 have d2:decide (109572<base)=false:=decide_eq_false (by omega)
 rcases (show kind<1∨(1≤kind∧4<kind) by omega) with h1 | ⟨h1,h2⟩
 ·have d3:decide (kind<1)=true:=decide_eq_true h1
  clear h h1
  go_enter Tryz.func11,Tryz.ntmps11
  go_wp2_with fail
  go_ret
  exact⟨rfl,HB.out.bl⟩
 ·have d3:decide (kind<1)=false:=decide_eq_false (by omega)
  have d4:decide (4<kind)=true:=decide_eq_true h2
  clear h h1 h2
  go_enter Tryz.func11,Tryz.ntmps11
  go_wp2_with fail
  go_ret
  exact⟨rfl,HB.out.bl⟩
set_option maxRecDepth 20000 in
set_option maxHeartbeats 1600000 in
theorem ol (base kind:Int) (pd pf:Option Addr) (n m cd cf:Nat) (w:World) (b0:0≤base) (b1:base≤109572) (h1:1≤kind) (h4:kind≤4) (h:n<1∨255<n∨m≠n) :
  Calls Tryz.prog 11 #[.agg #[.int .i64 base,.int .i64 kind,.slice pd n cd,.slice pf m cf]] w fun e w'=>e=.returned (.int .i64 100)∧Below w.heap.size w w':=by
 have HB:=hideS (eL w base kind (.slice pd n cd) (.slice pf m cf))
 have d1:decide (base<0)=false:=decide_eq_false (by omega)
 have d2:decide (109572<base)=false:=decide_eq_false (by omega)
 have d3:decide (kind<1)=false:=decide_eq_false (by omega)
 have d4:decide (4<kind)=false:=decide_eq_false (by omega)
 rcases (show n<1∨(1≤n∧255<n)∨(1≤n∧n≤255∧m≠n) by omega) with a | ⟨a,b⟩| ⟨a,b,c⟩
 ·have d5:decide ((n:Int)<1)=true:=decide_eq_true (by omega)
  clear h a b0 b1 h1 h4
  go_enter Tryz.func11,Tryz.ntmps11
  go_wp2_with fail
  go_ret
  exact⟨rfl,HB.out.bl⟩
 ·have d5:decide ((n:Int)<1)=false:=decide_eq_false (by omega)
  have d6:decide ((255:Int)<n)=true:=decide_eq_true (by omega)
  clear h a b b0 b1 h1 h4
  go_enter Tryz.func11,Tryz.ntmps11
  go_wp2_with fail
  go_ret
  exact⟨rfl,HB.out.bl⟩
 ·have d5:decide ((n:Int)<1)=false:=decide_eq_false (by omega)
  have d6:decide ((255:Int)<n)=false:=decide_eq_false (by omega)
  have d7:((n:Int) !=(m:Int))=true:=bne_iff_ne.2 (by omega)
  clear h a b c b0 b1 h1 h4
  go_enter Tryz.func11,Tryz.ntmps11
  go_wp2_with fail
  go_ret
  exact⟨rfl,HB.out.bl⟩
inductive NodCC (x q:Int) (f p:Bool):Bool→Prop
 | back (h:x≤q):NodCC x q f p true
 | far (h:q<x) (h2:109572<x):NodCC x q f p true
 | inf (h:q<x) (h2:x≤109572) (hf:f=false):NodCC x q f p true
 | low (h:q<x) (h2:x≤109572) (hf:f=true) (hp:p=false):NodCC x q f p true
 | fine (h:q<x) (h2:x≤109572) (hf:f=true) (hp:p=true):NodCC x q f p false
theorem Fm (base:Int) (ds:List Int) (fs:List Nat) (i:Nat):NodCC (ds.getD i 0) (dC base ds i) (finB (fs.getD i 0:Nat)) (ltB 0 (fs.getD i 0:Nat)) (kB base ds fs i):=by
 obtain⟨R,hR⟩:∃ R,kB base ds fs i=R:=⟨_,rfl⟩
 rw [hR]
 unfold kB at hR
 generalize ds.getD i 0=x at *
 generalize dC base ds i=q at *
 generalize finB (fs.getD i 0:Nat)=f at *
 generalize ltB 0 (fs.getD i 0:Nat)=p at *
 by_cases a:x≤q
 ·simp [a] at hR
  subst hR;exact .back a
 ·by_cases b:109572<x
  ·simp [b] at hR
   subst hR;exact .far (by omega) b
  ·rw [decide_eq_false a,decide_eq_false b] at hR
   cases f
   ·simp at hR
    subst hR;exact .inf (by omega) (by omega) rfl
   ·cases p
    ·simp at hR
     subst hR;exact .low (by omega) (by omega) rfl rfl
    ·simp at hR
     subst hR;exact .fine (by omega) (by omega) rfl rfl

set_option maxRecDepth 20000 in
set_option maxHeartbeats 12800000 in
theorem iI (base kind:Int) (pd pf:Option Addr) (bd od cd b2 o2 cf n K:Nat) (ds:List Int) (fs:List Nat) (w:World) (hX:VSrc w pd bd od n (xV ds)) (hY:VSrc w pf b2 o2 n (yV fs)) (hf:∀ i<n,U64 (fs.getD i 0:Nat)) (b0:0≤base) (b1:base≤109572) (h1:1≤kind) (h4:kind≤4) (hn:1≤n) (hn':n≤255) (hK:K≤n) (hfine:∀ i<K,kB base ds fs i=false) (hbad:K<n→kB base ds fs K=true) :
  Calls Tryz.prog 11 #[.agg #[.int .i64 base,.int .i64 kind,.slice pd n cd,.slice pf n cf]] w fun e w'=>e=.returned (.int .i64 (if K<n then 100 else 0))∧Below w.heap.size w w':=by
 obtain⟨w1,hw1⟩:∃ w1,w.alloc (.cells #[.int .i64 base,.int .i64 kind,.slice pd n cd,.slice pf n cf] 32)=w1:=⟨_,rfl⟩
 have HB:Hid (VBox w base kind (.slice pd n cd) (.slice pf n cf) w1):=by show VBox _ _ _ _ _ _;rw [← hw1];exact eL w base kind (.slice pd n cd) (.slice pf n cf)
 have HX:=hideS (hX.below HB.out.bl)
 have HY:=hideS (hY.below HB.out.bl)
 have HF:=hideS hf
 have HA:=hideS hfine
 have HBd:=hideS hbad
 have HNm:=hideS fun (u:Int) (wx:World) (hu:U64 u)=>aI u wx hu
 have HLt:=hideS fun (u:Int) (wx:World) (hu:U64 u)=>eR 0 u wx (by unfold U64;decide) hu
 obtain rfl:=hX.at_ (by omega)
 obtain rfl:=hY.at_ (by omega)
 have d1:decide (base<0)=false:=decide_eq_false (by omega)
 have d2:decide (109572<base)=false:=decide_eq_false (by omega)
 have d3:decide (kind<1)=false:=decide_eq_false (by omega)
 have d4:decide (4<kind)=false:=decide_eq_false (by omega)
 have d5:decide ((n:Int)<1)=false:=decide_eq_false (by omega)
 have d6:decide ((255:Int)<n)=false:=decide_eq_false (by omega)
 have d7:((n:Int) !=(n:Int))=false:=by simp
 obtain⟨R,hR⟩:∃ R:Int,(if K<n then 100 else 0)=R:=⟨_,rfl⟩
 rw [hR]
 have HR:=hideS hR
 have s0:=HB.out.t0
 have s1:=HB.out.t1
 have s2:=HB.out.t2
 have s3:=HB.out.t3
 clear hX hY hf hfine hbad hR b0 b1 h1 h4
 go_enter Tryz.func11,Tryz.ntmps11
 go_wp2_with fail
 clear hw1 s0 s1 s2 s3 d1 d2 d3 d4 d5 d6 d7
 go_loopw [3,4] (fun l i wr=>∃ k:Nat,k≤K∧l=.int .i64 (dC base ds k)∧i=.int .i64 k∧Hid (wr=w1)) (fun _ i _=>n - (intOf i).toNat)
 case atStart=>exact⟨0,Nat.zero_le _,rfl,rfl,rfl⟩
 case round=>
  obtain⟨k,hk,rfl,rfl,HQ⟩:=hrel
  have t2:wr.cell? ⟨w.heap.size,2,none⟩=some (.slice (some ⟨bd,od,none⟩) n cd):=by rw [HQ.out];exact HB.out.t2
  have t3:wr.cell? ⟨w.heap.size,3,none⟩=some (.slice (some ⟨b2,o2,none⟩) n cf):=by rw [HQ.out];exact HB.out.t3
  by_cases hlt:k<n
  ·have hcx:wr.cell? ⟨bd,od+k,none⟩=some (.int .i64 (ds.getD k 0)):=by rw [HQ.out];exact HX.out.cell k hlt
   have hcy:wr.cell? ⟨b2,o2+k,none⟩=some (.int .u64 (fs.getD k 0:Nat)):=by rw [HQ.out];exact HY.out.cell k hlt
   have HC:=Fm base ds fs k
   have HU:=hideS (HF.out k hlt)
   have HNk:=hideS fun wx=>HNm.out _ wx HU.out
   have HLk:=hideS fun wx=>HLt.out _ wx HU.out
   have HP:Hid (dC base ds (k+1)=ds.getD k 0):=rfl
   by_cases hkK:k<K
   ·rw [HA.out k hkK] at HC
    generalize hZ:false=Z at HC
    cases HC with
    | back=>cases hZ
    | far=>cases hZ
    | inf=>cases hZ
    | low=>cases hZ
    | fine a b c d=>
     clear hZ
     rw [c] at HNk
     rw [d] at HLk
     clear c d
     generalize dC base ds k=q at *
     generalize ds.getD k 0=x at *
     generalize hyk:((fs.getD k 0:Nat):Int)=y at *
     clear hyk
     have d1:decide (x≤q)=false:=decide_eq_false (by omega)
     have d2:decide (109572<x)=false:=decide_eq_false (by omega)
     clear HA HBd HF HX HY HB HNm HLt HU hn a b
     go_wp2_with (first | (go_at_call 31;refine (HNk.out _).mono ?_;rintro e wn ⟨rfl,rfl⟩) | (go_at_call 32;refine (HLk.out _).mono ?_;rintro e wl ⟨rfl,rfl⟩))
     go_roundw
     case rel=>exact⟨k+1,by omega,by rw [HP.out],by simp,HQ⟩
     case measure=>simp [intOf];omega
   ·obtain rfl:k=K:=by omega
    rw [HBd.out hlt] at HC
    have HR1:Hid ((100:Int)=R):=by show _=_;rw [← HR.out,if_pos hlt]
    clear HR HP
    have HBl:Hid (Below w.heap.size w wr):=by show Below _ _ _;rw [HQ.out];exact HB.out.bl
    generalize dC base ds k=q at *
    generalize ds.getD k 0=x at *
    generalize hyk:((fs.getD k 0:Nat):Int)=y at *
    clear hyk
    generalize hZ:true=Z at HC
    cases HC with
    | fine=>cases hZ
    | back a=>
     clear hZ
     have d1:decide (x≤q)=true:=decide_eq_true a
     clear HA HBd HF HX HY HB HNm HLt HU hn a
     go_wp2_with (first | (go_at_call 31;refine (HNk.out _).mono ?_;rintro e wn ⟨rfl,rfl⟩) | (go_at_call 32;refine (HLk.out _).mono ?_;rintro e wl ⟨rfl,rfl⟩))
     go_ret
     exact⟨by rw [← HR1.out];rfl,HBl.out⟩
    | far a b=>
     clear hZ
     have d1:decide (x≤q)=false:=decide_eq_false (by omega)
     have d2:decide (109572<x)=true:=decide_eq_true b
     clear HA HBd HF HX HY HB HNm HLt HU hn a b
     go_wp2_with (first | (go_at_call 31;refine (HNk.out _).mono ?_;rintro e wn ⟨rfl,rfl⟩) | (go_at_call 32;refine (HLk.out _).mono ?_;rintro e wl ⟨rfl,rfl⟩))
     go_ret
     exact⟨by rw [← HR1.out];rfl,HBl.out⟩
    | inf a b c=>
     clear hZ
     rw [c] at HNk
     have d1:decide (x≤q)=false:=decide_eq_false (by omega)
     have d2:decide (109572<x)=false:=decide_eq_false (by omega)
     clear HA HBd HF HX HY HB HNm HLt HU hn a b c
     go_wp2_with (first | (go_at_call 31;refine (HNk.out _).mono ?_;rintro e wn ⟨rfl,rfl⟩) | (go_at_call 32;refine (HLk.out _).mono ?_;rintro e wl ⟨rfl,rfl⟩))
     go_ret
     exact⟨by rw [← HR1.out];rfl,HBl.out⟩
    | low a b c d=>
     clear hZ
     rw [c] at HNk
     rw [d] at HLk
     have d1:decide (x≤q)=false:=decide_eq_false (by omega)
     have d2:decide (109572<x)=false:=decide_eq_false (by omega)
     clear HA HBd HF HX HY HB HNm HLt HU hn a b c d
     go_wp2_with (first | (go_at_call 31;refine (HNk.out _).mono ?_;rintro e wn ⟨rfl,rfl⟩) | (go_at_call 32;refine (HLk.out _).mono ?_;rintro e wl ⟨rfl,rfl⟩))
     go_ret
     exact⟨by rw [← HR1.out];rfl,HBl.out⟩
  ·obtain rfl:k=K:=by omega
   have HR1:Hid ((0:Int)=R):=by show _=_;rw [← HR.out,if_neg hlt]
   clear HR
   have hge:¬ (k:Int)<n:=by omega
   have HBl:Hid (Below w.heap.size w wr):=by show Below _ _ _;rw [HQ.out];exact HB.out.bl
   go_wp2_with fail
   go_ret
   exact⟨by rw [← HR1.out];rfl,HBl.out⟩
theorem iN (base kind:Int) (pd pf:Option Addr) (bd od cd b2 o2 cf:Nat) (ds:List Int) (fs:List Nat) (w:World) (hS:CSrcD w pd pf bd od b2 o2 ds fs) {E:Int} (hE:CurR base kind ds fs E) :
  Calls Tryz.prog 11 #[.agg #[.int .i64 base,.int .i64 kind,.slice pd ds.length cd,.slice pf fs.length cf]] w fun e w'=>e=.returned (.int .i64 E)∧Below w.heap.size w w':=by
 cases hE with
 | base h=>exact nD base kind _ _ w h
 | kind b0 b1 h=>exact nE base kind _ _ w b0 b1 h
 | len b0 b1 h1 h4 h=>exact ol base kind pd pf _ _ cd cf w b0 b1 h1 h4 h
 | ok h=>
  have hf:=hS.f
  have hu:=hS.u
  rw [h.len] at hf hu ⊢
  have:=iI base kind pd pf bd od cd b2 o2 cf ds.length ds.length ds fs w hS.d hf hu h.b0 h.b1 h.k1 h.k4 h.lo h.hi (Nat.le_refl _) h.node (fun c=>absurd c (Nat.lt_irrefl _))
  rwa [if_neg (Nat.lt_irrefl _)] at this
 | node b0 b1 h1 h4 lo hi len K hK bad fine=>
  have hf:=hS.f
  have hu:=hS.u
  rw [len] at hf hu ⊢
  have:=iI base kind pd pf bd od cd b2 o2 cf ds.length K ds fs w hS.d hf hu b0 b1 h1 h4 lo hi (Nat.le_of_lt hK) fine (fun _=>bad)
  rwa [if_pos hK] at this
end Go.Proofs.YtcmbfflemoccmaaGreat
namespace Go.Proofs.YtcmbfflemoccmaaGreat
open Go.RowKit

set_option maxHeartbeats 800000 in
theorem nF (kind:Int) (px py:Option Addr) (n m cx cy:Nat) (w:World) (h:kind<1∨4<kind) :
  Calls Tryz.prog 95 #[.agg #[.int .i64 kind,.slice px n cx,.slice py m cy]] w fun e w'=>e=.returned (.int .i64 90)∧Below w.heap.size w w':=by
 have HB:=hideS (bS w kind (.slice px n cx) (.slice py m cy))
 rcases (show kind<1∨(1≤kind∧4<kind) by omega) with h1 | ⟨h1,h2⟩
 all_goals
  clear h
  go_enter Tryz.func95,Tryz.ntmps95
  go_wp2_with fail
  go_ret
  exact⟨rfl,HB.out.bl⟩
set_option maxHeartbeats 1600000 in
theorem ou (kind:Int) (px py:Option Addr) (n m cx cy:Nat) (w:World) (h1:1≤kind) (h4:kind≤4) (h:n<1∨256<n∨m≠n) :
  Calls Tryz.prog 95 #[.agg #[.int .i64 kind,.slice px n cx,.slice py m cy]] w fun e w'=>e=.returned (.int .i64 100)∧Below w.heap.size w w':=by
 have HB:=hideS (bS w kind (.slice px n cx) (.slice py m cy))
 rcases (show n=0∨(1≤n∧256<n)∨(1≤n∧n≤256∧m≠n) by omega) with a | ⟨a,b⟩| ⟨a,b,c⟩
 ·subst a
  go_enter Tryz.func95,Tryz.ntmps95
  go_wp2_with fail
  go_ret
  exact⟨rfl,HB.out.bl⟩
 ·have a':¬ (n:Int)<1:=by omega
  have b':(256:Int)<n:=by omega
  go_enter Tryz.func95,Tryz.ntmps95
  go_wp2_with fail
  go_ret
  exact⟨rfl,HB.out.bl⟩
 ·have a':¬ (n:Int)<1:=by omega
  have b':¬ (256:Int)<n:=by omega
  have c':((n:Int) !=(m:Int))=true:=bne_iff_ne.2 (by omega)
  go_enter Tryz.func95,Tryz.ntmps95
  go_wp2_with fail
  go_ret
  exact⟨rfl,HB.out.bl⟩
inductive NodeC (kind:Int) (i:Nat) (x px:Int) (fin pos:Bool):Bool→Prop
 | neg (h:x<0):NodeC kind i x px fin pos true
 | far (h0:0≤x) (h:109572<x):NodeC kind i x px fin pos true
 | back (h0:0≤x) (h1:x≤109572) (hi:0<i) (h:x≤px):NodeC kind i x px fin pos true
 | inf (h0:0≤x) (h1:x≤109572) (hi:i=0∨(0<i∧px<x)) (h:fin=false):NodeC kind i x px fin pos true
 | low (h0:0≤x) (h1:x≤109572) (hi:i=0∨(0<i∧px<x)) (h:fin=true) (hk:kind=4) (hp:pos=false):NodeC kind i x px fin pos true
 | fine (h0:0≤x) (h1:x≤109572) (hi:i=0∨(0<i∧px<x)) (h:fin=true) (hk:kind≠4∨(kind=4∧pos=true)):NodeC kind i x px fin pos false
theorem Fp (kind:Int) (xs:List Int) (ys:List Nat) (i:Nat):NodeC kind i (xs.getD i 0) (xs.getD (i - 1) 0) (finB (ys.getD i 0:Nat)) (ltB 0 (ys.getD i 0:Nat)) (eJ kind xs ys i):=by
 obtain⟨R,hR⟩:∃ R,eJ kind xs ys i=R:=⟨_,rfl⟩
 rw [hR]
 unfold eJ at hR
 generalize xs.getD i 0=x at *
 generalize xs.getD (i - 1) 0=q at *
 generalize finB (ys.getD i 0:Nat)=f at *
 generalize ltB 0 (ys.getD i 0:Nat)=p at *
 by_cases a:x<0
 ·simp [a] at hR
  subst hR;exact .neg a
 ·by_cases b:109572<x
  ·simp [b] at hR
   subst hR;exact .far (by omega) b
  ·by_cases c:0<i∧x≤q
   ·simp [c] at hR
    subst hR;exact .back (by omega) (by omega) c.1 c.2
   ·have hi:i=0∨(0<i∧q<x):=by omega
    have hc:(decide (0<i)&&decide (x≤q))=false:=by
     rw [Bool.and_eq_false_iff,decide_eq_false_iff_not,decide_eq_false_iff_not]
     omega
    rw [hc,decide_eq_false a,decide_eq_false b] at hR
    cases f
    ·simp at hR
     subst hR;exact .inf (by omega) (by omega) hi rfl
    ·by_cases k:kind=4
     ·cases p
      ·simp [k] at hR
       subst hR;exact .low (by omega) (by omega) hi rfl k rfl
      ·simp at hR
       subst hR;exact .fine (by omega) (by omega) hi rfl (Or.inr ⟨k,rfl⟩)
     ·simp [k] at hR
      subst hR;exact .fine (by omega) (by omega) hi rfl (Or.inl k)
def Bw (kind:Int) (k:Nat) (x q:Int) (f p:Bool):Prop:=
 x<0∨(0≤x∧109572<x)∨(0≤x∧x≤109572∧0<k∧x≤q)∨(0≤x∧x≤109572∧¬ 0<k∧f=false)∨(0≤x∧x≤109572∧0<k∧¬ x≤q∧f=false)∨(0≤x∧x≤109572∧¬ 0<k∧f=true∧kind=4∧p=false)∨(0≤x∧x≤109572∧0<k∧¬ x≤q∧f=true∧kind=4∧p=false)
def vC (kind:Int) (k:Nat) (x q:Int) (f p:Bool):Prop:=
 0≤x∧x≤109572∧f=true∧((¬ 0<k∧(kind==4)=false)∨(0<k∧¬ x≤q∧(kind==4)=false)∨(¬ 0<k∧(kind==4)=true∧p=true)∨(0<k∧¬ x≤q∧(kind==4)=true∧p=true))
theorem CL {kind:Int} {k:Nat} {x q:Int} {f p:Bool} (h:NodeC kind k x q f p true):Bw kind k x q f p:=by
 unfold Bw
 generalize hR:true=R at h
 cases h with
 | neg h=>exact Or.inl h
 | far h0 h=>exact Or.inr (Or.inl ⟨h0,h⟩)
 | back h0 h1 hi h=>exact Or.inr (Or.inr (Or.inl ⟨h0,h1,hi,h⟩))
 | inf h0 h1 hi h=>
  rcases hi with a | ⟨a,b⟩
  ·exact Or.inr (Or.inr (Or.inr (Or.inl ⟨h0,h1,by omega,h⟩)))
  ·exact Or.inr (Or.inr (Or.inr (Or.inr (Or.inl ⟨h0,h1,a,by omega,h⟩))))
 | low h0 h1 hi h hk hp=>
  rcases hi with a | ⟨a,b⟩
  ·exact Or.inr (Or.inr (Or.inr (Or.inr (Or.inr (Or.inl ⟨h0,h1,by omega,h,hk,hp⟩)))))
  ·exact Or.inr (Or.inr (Or.inr (Or.inr (Or.inr (Or.inr ⟨h0,h1,a,by omega,h,hk,hp⟩)))))
 | fine=>cases hR
theorem zk {kind:Int} {k:Nat} {x q:Int} {f p:Bool} (h:NodeC kind k x q f p false):vC kind k x q f p:=by
 unfold vC
 generalize hR:false=R at h
 cases h with
 | fine h0 h1 hi h hk=>
  refine⟨h0,h1,h,?_⟩
  rcases hi with a | ⟨a,b⟩ <;>rcases hk with c | ⟨c,d⟩
  ·exact Or.inl ⟨by omega,beq_false_of_ne c⟩
  ·exact Or.inr (Or.inr (Or.inl ⟨by omega,beq_iff_eq.2 c,d⟩))
  ·exact Or.inr (Or.inl ⟨a,by omega,beq_false_of_ne c⟩)
  ·exact Or.inr (Or.inr (Or.inr ⟨a,by omega,beq_iff_eq.2 c,d⟩))
 | neg=>cases hR
 | far=>cases hR
 | back=>cases hR
 | inf=>cases hR
 | low=>cases hR

set_option maxHeartbeats 12800000 in
theorem iJ (kind:Int) (px py:Option Addr) (bx ox cx b2 oy cy n K:Nat) (xs:List Int) (ys:List Nat) (w:World) (hX:VSrc w px bx ox n (xV xs)) (hY:VSrc w py b2 oy n (yV ys)) (hf:∀ i<n,U64 (ys.getD i 0:Nat)) (h1:1≤kind) (h4:kind≤4) (hn:1≤n) (hn':n≤256) (hK:K≤n) (hfine:∀ i<K,eJ kind xs ys i=false) (hbad:K<n→eJ kind xs ys K=true) :
  Calls Tryz.prog 95 #[.agg #[.int .i64 kind,.slice px n cx,.slice py n cy]] w fun e w'=>e=.returned (.int .i64 (if K<n then 100 else 0))∧Below w.heap.size w w':=by
 obtain⟨w1,hw1⟩:∃ w1,w.alloc (.cells #[.int .i64 kind,.slice px n cx,.slice py n cy] 81)=w1:=⟨_,rfl⟩
 have HB:Hid (TBox w kind (.slice px n cx) (.slice py n cy) w1):=by show TBox _ _ _ _ _;rw [← hw1];exact bS w kind (.slice px n cx) (.slice py n cy)
 have HX:=hideS (hX.below HB.out.bl)
 have HY:=hideS (hY.below HB.out.bl)
 have HF:=hideS hf
 have HA:=hideS hfine
 have HBd:=hideS hbad
 have HNm:=hideS fun (u:Int) (wx:World) (hu:U64 u)=>aI u wx hu
 have HLt:=hideS fun (u:Int) (wx:World) (hu:U64 u)=>eR 0 u wx (by unfold U64;decide) hu
 obtain rfl:=hX.at_ (by omega)
 obtain rfl:=hY.at_ (by omega)
 have n1:¬ (n:Int)<1:=by omega
 have n2:¬ (256:Int)<n:=by omega
 obtain⟨R,hR⟩:∃ R:Int,(if K<n then 100 else 0)=R:=⟨_,rfl⟩
 rw [hR]
 have HR:=hideS hR
 clear hR
 have s0:=HB.out.t0
 have s1:=HB.out.t1
 have s2:=HB.out.t2
 clear hX hY hf hfine hbad
 go_enter Tryz.func95,Tryz.ntmps95
 go_wp2_with fail
 clear hw1 s0 s1 s2
 go_loopw [3] (fun i wr=>∃ k:Nat,k≤K∧i=.int .i64 k∧Hid (∃ q,wr=w1.drewN q)) (fun i _=>n - (intOf i).toNat)
 case atStart=>exact⟨0,Nat.zero_le _,rfl,⟨0,rfl⟩⟩
 case round=>
  obtain⟨k,hk,rfl,HQ⟩:=hrel
  have t0:wr.cell? ⟨w.heap.size,0,none⟩=some (.int .i64 kind):=by obtain⟨q,e⟩:=HQ.out;rw [e];exact HB.out.t0
  have t1:wr.cell? ⟨w.heap.size,1,none⟩=some (.slice (some ⟨bx,ox,none⟩) n cx):=by obtain⟨q,e⟩:=HQ.out;rw [e];exact HB.out.t1
  have t2:wr.cell? ⟨w.heap.size,2,none⟩=some (.slice (some ⟨b2,oy,none⟩) n cy):=by obtain⟨q,e⟩:=HQ.out;rw [e];exact HB.out.t2
  by_cases hlt:k<n
  ·have hcx:wr.cell? ⟨bx,ox+k,none⟩=some (.int .i64 (xs.getD k 0)):=by obtain⟨q,e⟩:=HQ.out;rw [e];exact HX.out.cell k hlt
   have hcy:wr.cell? ⟨b2,oy+k,none⟩=some (.int .u64 (ys.getD k 0:Nat)):=by obtain⟨q,e⟩:=HQ.out;rw [e];exact HY.out.cell k hlt
   have hcq:0<k→wr.cell? ⟨bx,ox+(k - 1),none⟩=some (.int .i64 (xs.getD (k - 1) 0)):=fun h=>by obtain⟨q,e⟩:=HQ.out;rw [e];exact HX.out.cell (k - 1) (by omega)
   have HC:=Fp kind xs ys k
   have HU:=hideS (HF.out k hlt)
   have HNk:=hideS fun wx=>HNm.out _ wx HU.out
   have HLk:=hideS fun wx=>HLt.out _ wx HU.out
   by_cases hkK:k<K
   ·rw [HA.out k hkK] at HC
    obtain⟨g0,g1,g2,HC'⟩:=zk HC
    rw [g2] at HNk
    clear HC g2
    generalize xs.getD k 0=x at *
    generalize xs.getD (k - 1) 0=q at *
    generalize hyk:((ys.getD k 0:Nat):Int)=y at *
    clear hyk
    generalize ltB 0 y=p at *
    rcases HC' with⟨a1,a2⟩| ⟨a1,a2,a3⟩| ⟨a1,a3,rfl⟩| ⟨a1,a2,a3,rfl⟩
    ·have d1:decide (x<0)=false:=decide_eq_false (by omega)
     have d2:decide (109572<x)=false:=decide_eq_false (by omega)
     have d3:decide (0<k)=false:=decide_eq_false a1
     have d4:decide ((0:Int)<(k:Int))=false:=decide_eq_false (by omega)
     clear hcq
     clear HA HBd HF HX HY HB HNm HLt HU n1 n2 h1 h4 hn g0 g1 a1
     go_wp2_with fail
     go_quiet (first | (go_at_call 31;exact Calls.quiet_of_same (HNk.out _)) | (go_at_call 32;exact Calls.quiet_of_same (HLk.out _)))
     go_wp2_with fail
     go_roundw
     case rel=>exact⟨k+1,by omega,by simp,by obtain⟨q,e⟩:=HQ.out;exact⟨q+nq,by rw [e,World.drewN_drewN]⟩⟩
     case measure=>simp [intOf];omega
    ·have d1:decide (x<0)=false:=decide_eq_false (by omega)
     have d2:decide (109572<x)=false:=decide_eq_false (by omega)
     have d3:decide (0<k)=true:=decide_eq_true a1
     have d4:decide ((0:Int)<(k:Int))=true:=decide_eq_true (by omega)
     obtain⟨j,hj⟩:∃ j,k=j+1:=⟨k - 1,by omega⟩
     have hkj:(k:Int) - 1=(j:Int):=by omega
     have hjn:j<n:=by omega
     have hcq':=hcq a1
     rw [show k - 1=j by omega] at hcq'
     clear hcq hj
     have d5:decide (x≤q)=false:=decide_eq_false a2
     clear HA HBd HF HX HY HB HNm HLt HU n1 n2 h1 h4 hn g0 g1 a1
     go_wp2_with fail
     go_quiet (first | (go_at_call 31;exact Calls.quiet_of_same (HNk.out _)) | (go_at_call 32;exact Calls.quiet_of_same (HLk.out _)))
     go_wp2_with fail
     go_roundw
     case rel=>exact⟨k+1,by omega,by simp,by obtain⟨q,e⟩:=HQ.out;exact⟨q+nq,by rw [e,World.drewN_drewN]⟩⟩
     case measure=>simp [intOf];omega
    ·have d1:decide (x<0)=false:=decide_eq_false (by omega)
     have d2:decide (109572<x)=false:=decide_eq_false (by omega)
     have d3:decide (0<k)=false:=decide_eq_false a1
     have d4:decide ((0:Int)<(k:Int))=false:=decide_eq_false (by omega)
     clear hcq
     clear HA HBd HF HX HY HB HNm HLt HU n1 n2 h1 h4 hn g0 g1 a1
     go_wp2_with fail
     go_quiet (first | (go_at_call 31;exact Calls.quiet_of_same (HNk.out _)) | (go_at_call 32;exact Calls.quiet_of_same (HLk.out _)))
     go_wp2_with fail
     go_roundw
     case rel=>exact⟨k+1,by omega,by simp,by obtain⟨q,e⟩:=HQ.out;exact⟨q+nq,by rw [e,World.drewN_drewN]⟩⟩
     case measure=>simp [intOf];omega
    ·have d1:decide (x<0)=false:=decide_eq_false (by omega)
     have d2:decide (109572<x)=false:=decide_eq_false (by omega)
     have d3:decide (0<k)=true:=decide_eq_true a1
     have d4:decide ((0:Int)<(k:Int))=true:=decide_eq_true (by omega)
     obtain⟨j,hj⟩:∃ j,k=j+1:=⟨k - 1,by omega⟩
     have hkj:(k:Int) - 1=(j:Int):=by omega
     have hjn:j<n:=by omega
     have hcq':=hcq a1
     rw [show k - 1=j by omega] at hcq'
     clear hcq hj
     have d5:decide (x≤q)=false:=decide_eq_false a2
     clear HA HBd HF HX HY HB HNm HLt HU n1 n2 h1 h4 hn g0 g1 a1
     go_wp2_with fail
     go_quiet (first | (go_at_call 31;exact Calls.quiet_of_same (HNk.out _)) | (go_at_call 32;exact Calls.quiet_of_same (HLk.out _)))
     go_wp2_with fail
     go_roundw
     case rel=>exact⟨k+1,by omega,by simp,by obtain⟨q,e⟩:=HQ.out;exact⟨q+nq,by rw [e,World.drewN_drewN]⟩⟩
     case measure=>simp [intOf];omega
   ·obtain rfl:k=K:=by omega
    rw [HBd.out hlt] at HC
    have HC':=CL HC
    clear HC
    have HR1:Hid ((100:Int)=R):=by show _=_;rw [← HR.out,if_pos hlt]
    clear HR
    generalize xs.getD k 0=x at *
    generalize xs.getD (k - 1) 0=q at *
    generalize hyk:((ys.getD k 0:Nat):Int)=y at *
    clear hyk
    generalize ltB 0 y=p at *
    generalize finB y=f at *
    have HBl:Hid (∀ m,Below w.heap.size w (wr.drewN m)):=fun m=>by obtain⟨q,e⟩:=HQ.out;rw [e,World.drewN_drewN];exact⟨HB.out.bl.os,HB.out.bl.tape,HB.out.bl.output,HB.out.bl.size,HB.out.bl.block⟩
    rcases HC' with a | ⟨a,b⟩| ⟨a,b,a1,c⟩| ⟨a,b,a1,rfl⟩| ⟨a,b,a1,c,rfl⟩| ⟨a,b,a1,rfl,rfl,rfl⟩| ⟨a,b,a1,c,rfl,rfl,rfl⟩
    ·have d1:decide (x<0)=true:=decide_eq_true a
     clear hcq
     clear HA HBd HF HX HY HB HNm HLt HU n1 n2 h1 h4 hn
     go_wp2_with fail
     go_quiet (first | (go_at_call 31;exact Calls.quiet_of_same (HNk.out _)) | (go_at_call 32;exact Calls.quiet_of_same (HLk.out _)))
     go_wp2_with fail
     go_ret
     exact⟨by rw [← HR1.out];rfl,HBl.out _⟩
    ·have d1:decide (x<0)=false:=decide_eq_false (by omega)
     have d2:decide (109572<x)=true:=decide_eq_true b
     clear hcq
     clear HA HBd HF HX HY HB HNm HLt HU n1 n2 h1 h4 hn
     go_wp2_with fail
     go_quiet (first | (go_at_call 31;exact Calls.quiet_of_same (HNk.out _)) | (go_at_call 32;exact Calls.quiet_of_same (HLk.out _)))
     go_wp2_with fail
     go_ret
     exact⟨by rw [← HR1.out];rfl,HBl.out _⟩
    ·skip
     have d1:decide (x<0)=false:=decide_eq_false (by omega)
     have d2:decide (109572<x)=false:=decide_eq_false (by omega)
     have d3:decide (0<k)=true:=decide_eq_true a1
     have d4:decide ((0:Int)<(k:Int))=true:=decide_eq_true (by omega)
     obtain⟨j,hj⟩:∃ j,k=j+1:=⟨k - 1,by omega⟩
     have hkj:(k:Int) - 1=(j:Int):=by omega
     have hjn:j<n:=by omega
     have hcq':=hcq a1
     rw [show k - 1=j by omega] at hcq'
     clear hcq hj
     have d5:decide (x≤q)=true:=decide_eq_true c
     clear HA HBd HF HX HY HB HNm HLt HU n1 n2 h1 h4 hn
     go_wp2_with fail
     go_quiet (first | (go_at_call 31;exact Calls.quiet_of_same (HNk.out _)) | (go_at_call 32;exact Calls.quiet_of_same (HLk.out _)))
     go_wp2_with fail
     go_ret
     exact⟨by rw [← HR1.out];rfl,HBl.out _⟩
    ·skip
     have d1:decide (x<0)=false:=decide_eq_false (by omega)
     have d2:decide (109572<x)=false:=decide_eq_false (by omega)
     have d3:decide (0<k)=false:=decide_eq_false a1
     have d4:decide ((0:Int)<(k:Int))=false:=decide_eq_false (by omega)
     clear hcq
     clear HA HBd HF HX HY HB HNm HLt HU n1 n2 h1 h4 hn
     go_wp2_with fail
     go_quiet (first | (go_at_call 31;exact Calls.quiet_of_same (HNk.out _)) | (go_at_call 32;exact Calls.quiet_of_same (HLk.out _)))
     go_wp2_with fail
     go_ret
     exact⟨by rw [← HR1.out];rfl,HBl.out _⟩
    ·skip
     have d1:decide (x<0)=false:=decide_eq_false (by omega)
     have d2:decide (109572<x)=false:=decide_eq_false (by omega)
     have d3:decide (0<k)=true:=decide_eq_true a1
     have d4:decide ((0:Int)<(k:Int))=true:=decide_eq_true (by omega)
     obtain⟨j,hj⟩:∃ j,k=j+1:=⟨k - 1,by omega⟩
     have hkj:(k:Int) - 1=(j:Int):=by omega
     have hjn:j<n:=by omega
     have hcq':=hcq a1
     rw [show k - 1=j by omega] at hcq'
     clear hcq hj
     have d5:decide (x≤q)=false:=decide_eq_false c
     clear HA HBd HF HX HY HB HNm HLt HU n1 n2 h1 h4 hn
     go_wp2_with fail
     go_quiet (first | (go_at_call 31;exact Calls.quiet_of_same (HNk.out _)) | (go_at_call 32;exact Calls.quiet_of_same (HLk.out _)))
     go_wp2_with fail
     go_ret
     exact⟨by rw [← HR1.out];rfl,HBl.out _⟩
    ·skip
     have d1:decide (x<0)=false:=decide_eq_false (by omega)
     have d2:decide (109572<x)=false:=decide_eq_false (by omega)
     have d3:decide (0<k)=false:=decide_eq_false a1
     have d4:decide ((0:Int)<(k:Int))=false:=decide_eq_false (by omega)
     clear hcq
     clear HA HBd HF HX HY HB HNm HLt HU n1 n2 h1 h4 hn
     go_wp2_with fail
     go_quiet (first | (go_at_call 31;exact Calls.quiet_of_same (HNk.out _)) | (go_at_call 32;exact Calls.quiet_of_same (HLk.out _)))
     go_wp2_with fail
     go_ret
     exact⟨by rw [← HR1.out];rfl,HBl.out _⟩
    ·skip
     have d1:decide (x<0)=false:=decide_eq_false (by omega)
     have d2:decide (109572<x)=false:=decide_eq_false (by omega)
     have d3:decide (0<k)=true:=decide_eq_true a1
     have d4:decide ((0:Int)<(k:Int))=true:=decide_eq_true (by omega)
     obtain⟨j,hj⟩:∃ j,k=j+1:=⟨k - 1,by omega⟩
     have hkj:(k:Int) - 1=(j:Int):=by omega
     have hjn:j<n:=by omega
     have hcq':=hcq a1
     rw [show k - 1=j by omega] at hcq'
     clear hcq hj
     have d5:decide (x≤q)=false:=decide_eq_false c
     clear HA HBd HF HX HY HB HNm HLt HU n1 n2 h1 h4 hn
     go_wp2_with fail
     go_quiet (first | (go_at_call 31;exact Calls.quiet_of_same (HNk.out _)) | (go_at_call 32;exact Calls.quiet_of_same (HLk.out _)))
     go_wp2_with fail
     go_ret
     exact⟨by rw [← HR1.out];rfl,HBl.out _⟩
  ·obtain rfl:k=K:=by omega
   have HR1:Hid ((0:Int)=R):=by show _=_;rw [← HR.out,if_neg hlt]
   clear HR
   have hge:¬ (k:Int)<n:=by omega
   have HBl:Hid (Below w.heap.size w wr):=by show Below _ _ _;obtain⟨q,e⟩:=HQ.out;rw [e];exact⟨HB.out.bl.os,HB.out.bl.tape,HB.out.bl.output,HB.out.bl.size,HB.out.bl.block⟩
   go_wp2_with fail
   go_ret
   exact⟨by rw [← HR1.out];rfl,HBl.out⟩
end Go.Proofs.YtcmbfflemoccmaaGreat
namespace Go.Proofs.YtcmbfflemoccmaaGreat
open Go.RowKit

structure TSrc (w:World) (px py:Option Addr) (bx ox b2 oy:Nat) (xs:List Int) (ys:List Nat):Prop where
 x:VSrc w px bx ox xs.length (xV xs)
 y:VSrc w py b2 oy ys.length (yV ys)
 f:∀ i<ys.length,U64 (ys.getD i 0:Nat)
theorem TSrc.below {w w':World} {px py:Option Addr} {bx ox b2 oy:Nat} {xs:List Int} {ys:List Nat} (h:TSrc w px py bx ox b2 oy xs ys) (hb:Below w.heap.size w w'):TSrc w' px py bx ox b2 oy xs ys:=⟨h.x.below hb,h.y.below hb,h.f⟩
theorem dk (kind E:Int) (px py:Option Addr) (bx ox cx b2 oy cy:Nat) (xs:List Int) (ys:List Nat) (w:World) (h:TabR kind xs ys E) (hs:TSrc w px py bx ox b2 oy xs ys) :
  Calls Tryz.prog 95 #[.agg #[.int .i64 kind,.slice px xs.length cx,.slice py ys.length cy]] w fun e w'=>e=.returned (.int .i64 E)∧Below w.heap.size w w':=by
 cases h with
 | kind h=>exact nF kind px py _ _ cx cy w h
 | len h1 h4 h=>exact ou kind px py _ _ cx cy w h1 h4 (by omega)
 | node h1 h4 lo hi len K hK bad fine=>
  have hy:=hs.y
  rw [len] at hy ⊢
  have:=iJ kind px py bx ox cx b2 oy cy xs.length K xs ys w hs.x hy (fun i hi'=>hs.f i (by omega)) h1 h4 lo hi (by omega) fine (fun _=>bad)
  rw [if_pos hK] at this
  exact this
 | ok h=>
  have hy:=hs.y
  have hl:=h.len
  rw [hl] at hy ⊢
  have:=iJ kind px py bx ox cx b2 oy cy xs.length xs.length xs ys w hs.x hy (fun i hi'=>hs.f i (by omega)) h.k1 h.k4 h.lo h.hi (Nat.le_refl _) h.node (fun c=>absurd c (Nat.lt_irrefl _))
  rw [if_neg (Nat.lt_irrefl _)] at this
  exact this
inductive FindO (kind:Int) (xs:List Int) (ys:List Nat) (x:Int):Int→Int→Prop
 | bad (E:Int) (h:TabR kind xs ys E) (hE:E≠0):FindO kind xs ys x 0 E
 | out (h:OkT kind xs ys) (hx:x<xs.getD 0 0∨xs.getD (xs.length - 1) 0<x):FindO kind xs ys x 0 51
 | at_ (h:OkT kind xs ys) (hlo:xs.getD 0 0≤x) (hhi:x≤xs.getD (xs.length - 1) 0) (k:Nat) (hk:FindR xs x k) (hj:∀ j<k,j+1<xs.length∧xs.getD (j+1) 0≤x):FindO kind xs ys x (k:Int) 0
theorem Bz {kind:Int} {xs:List Int} {ys:List Nat} (h:TabR kind xs ys 0):OkT kind xs ys:=by
 generalize hE:(0:Int)=E at h
 cases h with
 | ok h=>exact h
 | kind h=>cases hE
 | len h1 h4 h=>cases hE
 | node=>cases hE
theorem Fq (kind:Int) (xs:List Int) (ys:List Nat) (x:Int):∃ k E,FindO kind xs ys x k E:=by
 obtain⟨E,h⟩:=Ju kind xs ys
 by_cases hE:E=0
 ·subst hE
  have ok:=Bz h
  by_cases hx:x<xs.getD 0 0∨xs.getD (xs.length - 1) 0<x
  ·exact⟨_,_,.out ok hx⟩
  ·obtain⟨k,hk,hj⟩:=Jv (x:=x) ok.lo (by omega)
   exact⟨_,_,.at_ ok (by omega) (by omega) k hk hj⟩
 ·exact⟨_,_,.bad E h hE⟩

set_option maxHeartbeats 800000 in
theorem qM (kind x E:Int) (v1 v2:Value) (w:World) (hE:E≠0) (HC:Hid (∀ wx,Below w.heap.size w wx→Calls Tryz.prog 95 #[.agg #[.int .i64 kind,v1,v2]] wx fun e w'=>e=.returned (.int .i64 E)∧Below wx.heap.size wx w')) :
  Calls Tryz.prog 58 #[.agg #[.int .i64 kind,v1,v2],.int .i64 x] w fun e w'=>e=.returned (.tuple #[.int .i64 0,.int .i64 E])∧Below w.heap.size w w':=by
 have HB:=hideS (bS w kind v1 v2)
 have hE':(E !=0)=true:=bne_iff_ne.2 hE
 clear hE
 go_enter Tryz.func58,Tryz.ntmps58
 go_wp2_with (go_at_call 95;refine (HC.out _ HB.out.bl).mono ?_;rintro e w1 ⟨rfl,hb1⟩)
 go_ret2
 exact⟨rfl,(HB.out.step hb1).bl⟩
set_option maxHeartbeats 1600000 in
theorem qN (kind x:Int) (px:Option Addr) (bx ox cx:Nat) (n:Nat) (xs:List Int) (v2:Value) (w:World) (hX:VSrc w px bx ox n (xV xs)) (hn:1≤n) (hn':n≤256) (hx:x<xs.getD 0 0∨xs.getD (n - 1) 0<x) (HC:Hid (∀ wx,Below w.heap.size w wx→Calls Tryz.prog 95 #[.agg #[.int .i64 kind,.slice px n cx,v2]] wx fun e w'=>e=.returned (.int .i64 0)∧Below wx.heap.size wx w')) :
  Calls Tryz.prog 58 #[.agg #[.int .i64 kind,.slice px n cx,v2],.int .i64 x] w fun e w'=>e=.returned (.tuple #[.int .i64 0,.int .i64 51])∧Below w.heap.size w w':=by
 have HB:=hideS (bS w kind (.slice px n cx) v2)
 have HX:=hideS fun wx (hb:Below w.heap.size w wx)=>hX.below hb
 obtain rfl:=hX.at_ (by omega)
 obtain⟨m,hm⟩:∃ m,n=m+1:=⟨n - 1,by omega⟩
 have hm1:n - 1=m:=by omega
 rw [hm1] at hx
 have hnm:(n:Int) - 1=(m:Int):=by omega
 have hmn:m<n:=by omega
 have h0n:0<n:=by omega
 clear hX hm hm1 hn
 go_enter Tryz.func58,Tryz.ntmps58
 go_wp2_with fail
 refine (HC.out _ HB.out.bl).mono ?_
 rintro e w1 ⟨rfl,hb1⟩
 have HB1:=hideS (HB.out.step hb1)
 have HX1:=hideS (HX.out _ HB1.out.bl)
 clear hb1
 obtain⟨t0,t1,t2,_,_⟩:=HB1.out
 have e0:w1.cell? ⟨bx,ox,none⟩=some (.int .i64 (xs.getD 0 0)):=HX1.out.cell 0 (by omega)
 have e1:w1.cell? ⟨bx,ox+m,none⟩=some (.int .i64 (xs.getD m 0)):=HX1.out.cell m hmn
 generalize xs.getD 0 0=a at *
 generalize xs.getD m 0=b at *
 rcases (show x<a∨(a≤x∧b<x) by omega) with h | ⟨h,h'⟩
 ·have d1:decide (x<a)=true:=decide_eq_true h
  clear hx
  go_wp2_with fail
  go_ret2
  exact⟨rfl,HB1.out.bl⟩
 ·have d1:decide (x<a)=false:=decide_eq_false (by omega)
  have d2:decide (b<x)=true:=decide_eq_true h'
  clear hx
  go_wp2_with fail
  go_ret2
  exact⟨rfl,HB1.out.bl⟩
set_option maxHeartbeats 3200000 in
theorem tr (kind x:Int) (px:Option Addr) (bx ox cx:Nat) (n K:Nat) (xs:List Int) (v2:Value) (w:World) (hX:VSrc w px bx ox n (xV xs)) (hn:1≤n) (hn':n≤256) (h0:xs.getD 0 0≤x) (h9:x≤xs.getD (n - 1) 0) (hK:K<n) (hgt:K+1<n→x<xs.getD (K+1) 0) (hj:∀ j<K,j+1<n∧xs.getD (j+1) 0≤x) (HC:Hid (∀ wx,Below w.heap.size w wx→Calls Tryz.prog 95 #[.agg #[.int .i64 kind,.slice px n cx,v2]] wx fun e w'=>e=.returned (.int .i64 0)∧Below wx.heap.size wx w')) :
  Calls Tryz.prog 58 #[.agg #[.int .i64 kind,.slice px n cx,v2],.int .i64 x] w fun e w'=>e=.returned (.tuple #[.int .i64 (K:Int),.int .i64 0])∧Below w.heap.size w w':=by
 have HB:=hideS (bS w kind (.slice px n cx) v2)
 have HX:=hideS fun wx (hb:Below w.heap.size w wx)=>hX.below hb
 have HJ:=hideS hj
 have HG:=hideS hgt
 obtain rfl:=hX.at_ (by omega)
 obtain⟨m,hm⟩:∃ m,n=m+1:=⟨n - 1,by omega⟩
 rw [show n - 1=m by omega] at h9
 have hnm:(n:Int) - 1=(m:Int):=by omega
 have hmn:m<n:=by omega
 have h0n:0<n:=by omega
 clear hX hm hn hj hgt
 go_enter Tryz.func58,Tryz.ntmps58
 go_wp2_with fail
 refine (HC.out _ HB.out.bl).mono ?_
 rintro e w1 ⟨rfl,hb1⟩
 have HB1:=hideS (HB.out.step hb1)
 have HX1:=hideS (HX.out _ HB1.out.bl)
 clear hb1
 obtain⟨t0,t1,t2,_,_⟩:=HB1.out
 have e0:w1.cell? ⟨bx,ox,none⟩=some (.int .i64 (xs.getD 0 0)):=HX1.out.cell 0 (by omega)
 have e1:w1.cell? ⟨bx,ox+m,none⟩=some (.int .i64 (xs.getD m 0)):=HX1.out.cell m hmn
 have d1:decide (x<xs.getD 0 0)=false:=decide_eq_false (by omega)
 have d2:decide (xs.getD m 0<x)=false:=decide_eq_false (by omega)
 clear h0 h9
 generalize xs.getD 0 0=a at *
 generalize xs.getD m 0=b at *
 go_wp2_with fail
 clear e0 e1 d1 d2
 go_loop [7] (fun i=>∃ k:Nat,k≤K∧i=.int .i64 k) (fun i=>n - (intOf i).toNat)
 case atStart=>exact⟨0,Nat.zero_le _,rfl⟩
 case round=>
  obtain⟨k,hk,rfl⟩:=hrel
  obtain⟨j,hj⟩:∃ j,k+1=j:=⟨_,rfl⟩
  have hkj:(k:Int)+1=(j:Int):=by omega
  by_cases hkK:k<K
  ·obtain⟨j1,j2⟩:=HJ.out k hkK
   rw [hj] at j1 j2
   have c1:w1.cell? ⟨bx,ox+j,none⟩=some (.int .i64 (xs.getD j 0)):=HX1.out.cell j j1
   have d3:decide (xs.getD j 0≤x)=true:=decide_eq_true j2
   clear j2
   generalize xs.getD j 0=y at *
   have d4:decide ((j:Int)<(n:Int))=true:=decide_eq_true (by omega)
   have HJj:=hideS hj
   clear hj
   go_wp2_with fail
   go_round
   case rel=>exact⟨j,by have:=HJj.out;omega,rfl⟩
   case measure=>have:=HJj.out;simp [intOf];omega
  ·obtain rfl:k=K:=by omega
   by_cases hl:j<n
   ·have c1:w1.cell? ⟨bx,ox+j,none⟩=some (.int .i64 (xs.getD j 0)):=HX1.out.cell j hl
    have d3:decide (xs.getD j 0≤x)=false:=decide_eq_false (by have:=HG.out (by omega);rw [hj] at this;omega)
    generalize xs.getD j 0=y at *
    have d4:decide ((j:Int)<(n:Int))=true:=decide_eq_true (by omega)
    clear hj
    go_wp2_with fail
    go_ret2
    exact⟨rfl,HB1.out.bl⟩
   ·have d4:decide ((j:Int)<(n:Int))=false:=decide_eq_false (by omega)
    clear hj
    go_wp2_with fail
    go_ret2
    exact⟨rfl,HB1.out.bl⟩
theorem cM (kind x k E:Int) (px py:Option Addr) (bx ox cx b2 oy cy:Nat) (xs:List Int) (ys:List Nat) (w:World) (h:FindO kind xs ys x k E) (hs:TSrc w px py bx ox b2 oy xs ys) :
  Calls Tryz.prog 58 #[.agg #[.int .i64 kind,.slice px xs.length cx,.slice py ys.length cy],.int .i64 x] w fun e w'=>e=.returned (.tuple #[.int .i64 k,.int .i64 E])∧Below w.heap.size w w':=by
 cases h with
 | bad E h hE=>exact qM kind x E _ _ w hE (fun wx hb=>dk kind E px py bx ox cx b2 oy cy xs ys wx h (hs.below hb))
 | out h hx=>exact qN kind x px bx ox cx xs.length xs _ w hs.x h.lo h.hi hx (fun wx hb=>dk kind 0 px py bx ox cx b2 oy cy xs ys wx (.ok h) (hs.below hb))
 | at_ h hlo hhi k hk hj=>exact tr kind x px bx ox cx xs.length k xs _ w hs.x h.lo h.hi hlo hhi hk.lt hk.gt hj (fun wx hb=>dk kind 0 px py bx ox cx b2 oy cy xs ys wx (.ok h) (hs.below hb))
end Go.Proofs.YtcmbfflemoccmaaGreat
