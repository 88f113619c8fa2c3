/-  -/
import Derived.Test.YtfdddijdjpijbaaGreatHaq
import Derived.Test.YtfdddijdjpijbaaGreatHac
import Derived.Test.YtfdddijdjpijbaaGreatAShelf
import Derived.WalkKit
import Derived.LoopTactic
import Derived.BigCall
import Derived.BigQuiet
import Derived.Maps.AppendAt
import Derived.Laws.OwnMore
import Derived.Deep.OwnRows
set_option maxHeartbeats 400000
namespace Go.Proofs.YtfdddijdjpijbaaGreat.A
open Go.RowKit
theorem hideS {p:Prop} (h:p):Hid p:=h
theorem turned {P:Program} {f:Nat} {args:Array Value} {w:World} {Q:Ending->Prop} (h:Calls P f args w fun e c=>Q e/\c=w):Calls P f args w fun e c=>Q e/\w=c:=
 h.mono fun _ _ ⟨a,b⟩=>⟨a,b.symm⟩
theorem infoU:(Tryz.prog.info? 41).map (fun i=>(i.zero,i.size,i.bytes))=some (some (.int .u64 0),1,8):=by kernel_rfl
theorem own_below {w d:World} {B e size n:Nat} {v:Value} {xs:List Value} (h:w.ownsRow B e size v n xs) (f:Below w.heap.size w d):d.ownsRow B e size v n xs:=by
 refine⟨h.1,?_⟩
 rcases h.2 with i | ⟨g,b,c,rfl,j,a,rest⟩
 ·exact .inl i
 ·exact .inr ⟨g,b,c,rfl,j,by rw [f.block g (Array.getElem?_eq_some_iff.1 a).1];exact a,rest⟩
def uV (x:Nat):Value:=.int .u64 (x:Int)
def fV (x:Nat):Value:=.float .f64 x
theorem getD_some {l:List Nat} {i:Nat} (hi:i<l.length):l[i]? =some (l.getD i 0):=by simp [List.getD,List.getElem?_eq_getElem hi]
def rowOf (f:Nat->Value) (l:List Nat) (k:Nat):List Value:=(l.take k).map f
theorem take_next {f:Nat->Value} {l:List Nat} {k:Nat} (a:k<l.length):rowOf f l (k+1)=rowOf f l k++[f (l.getD k 0)]:=by
 unfold rowOf;rw [List.take_add_one,getD_some a,List.map_append];rfl
theorem rowOf_all (f:Nat->Value) (l:List Nat):rowOf f l l.length=l.map f:=by unfold rowOf;rw [List.take_length]
structure Src (w:World) (p:Option Addr) (b off:Nat) (xs:List Nat):Prop where
 at_:0<xs.length->p=some ⟨b,off,none⟩
 lt:0<xs.length->b<w.heap.size
 cell:∀ j,j<xs.length->w.cell? ⟨b,off+j,none⟩=some (.float .f64 (xs.getD j 0))
theorem Src.below {w a:World} {p:Option Addr} {b off:Nat} {xs:List Nat} (h:Src w p b off xs) (c:Below w.heap.size w a):Src a p b off xs:=
 ⟨h.at_,fun e=>Nat.lt_of_lt_of_le (h.lt e) c.size,fun j d=>(c.cell (p:=⟨b,off+j,none⟩) (h.lt (by omega))).trans (h.cell j d)⟩
structure OwnW (w:World) (B:Nat) (v:Value) (xs:List Nat):Prop where
 own:w.ownsRow B 41 1 v xs.length (xs.map uV)
 fit:FitW xs
theorem OwnW.below {w a:World} {B:Nat} {v:Value} {xs:List Nat} (h:OwnW w B v xs) (b:Below w.heap.size w a):OwnW a B v xs:=⟨own_below h.own b,h.fit⟩
theorem OwnW.drewN {W:World} {B:Nat} {v:Value} {xs:List Nat} (h:OwnW W B v xs) (n:Nat):OwnW (W.drewN n) B v xs:=⟨h.own,h.fit⟩
theorem OwnW.shape {w:World} {B:Nat} {v:Value} {xs:List Nat} (h:OwnW w B v xs) :
  ∃ p g c,v=.slice p xs.length c/\xs.length<=c/\c<=maxLen/\(0<xs.length->p=some ⟨g,0,none⟩ /\B<=g/\g<w.heap.size)/\∀ j,j<xs.length->w.cell? ⟨g,j,none⟩=some (.int .u64 (xs.getD j 0:Nat)):=by
 rcases h.own.2 with⟨a,k⟩| ⟨g,b,m,a,n,l,d,e,_⟩
 ·exact⟨none,0,0,by rw [a,k],by omega,by unfold maxLen;omega,fun o=>by omega,fun j f=>by omega⟩
 ·refine⟨some ⟨g,0,none⟩,g,b,a,d,e,fun _=>⟨rfl,n,(Array.getElem?_eq_some_iff.1 l).1⟩,fun j f=>?_⟩
  have i:=h.own;rw [a] at i
  rw [i.cellAt j (by omega),List.getElem?_map,getD_some f];rfl
theorem OwnW.cell1 {w:World} {B g n c:Nat} {xs:List Nat} (h:OwnW w B (.slice (some ⟨g,0,none⟩) n c) xs) (hn:xs.length=n) (j:Nat) (b:j<xs.length):w.cell? ⟨g,j,none⟩=some (.int .u64 (xs.getD j 0:Nat)):=by
 have a:=h.own;rw [hn] at a
 rw [a.cellAt j (by omega),List.getElem?_map,getD_some b];rfl
theorem OwnW.frozen1 {w:World} {B g n c:Nat} {xs:List Nat} (h:OwnW w B (.slice (some ⟨g,0,none⟩) n c) xs) (hn:xs.length=n) (j:Nat):w.frozen? ⟨g,j,none⟩=false:=by
 have a:=h.own;rw [hn] at a
 exact World.ownsRow.frozenAt a j
theorem OwnW.set {w:World} {B g n c:Nat} {xs:List Nat} (h:OwnW w B (.slice (some ⟨g,0,none⟩) n c) xs) (hn:xs.length=n) (j x:Nat) (f:x<18446744073709551616) :
  OwnW (w.setCell ⟨g,j,none⟩ (.int .u64 (x:Int))) B (.slice (some ⟨g,0,none⟩) n c) (xs.set j x)/\w.grownBy (w.setCell ⟨g,j,none⟩ (.int .u64 (x:Int))) (some g):=by
 have b:=h.own;rw [hn] at b
 have a:=World.ownsRow.stored b j (.int .u64 (x:Int));refine⟨⟨by rw [List.length_set,hn,List.map_set];exact a.1,fun i=>?_⟩,a.2⟩
 by_cases hi:i=j
 ·subst hi
  by_cases d:i<xs.length
  ·simp [List.getD,d];exact f
  ·have:=h.fit i;simp [List.getD,List.getElem?_eq_none (show (xs.set i x).length<=i by simp;omega)]
 ·have:=h.fit i
  simpa [List.getD,List.getElem?_set_ne (fun e=>hi e.symm)] using this
structure Wrote (w w':World) (F:Nat->Prop):Prop where
 os:w'.os=w.os
 tape:w'.tape=w.tape
 output:w'.output=w.output
 size:w.heap.size<=w'.heap.size
 block:∀ k,k<w.heap.size->¬ F k->w'.heap[k]? =w.heap[k]?
theorem Wrote.refl (w:World) (F:Nat->Prop):Wrote w w F:=⟨rfl,rfl,rfl,Nat.le_refl _,fun _ _ _=>rfl⟩
theorem Wrote.trans {a b c:World} {F G:Nat->Prop} (h:Wrote a b F) (d:Wrote b c G) (i:∀ k,k<a.heap.size->G k->F k):Wrote a c F:=
 ⟨d.os.trans h.os,d.tape.trans h.tape,d.output.trans h.output,Nat.le_trans h.size d.size,fun k e f=>(d.block k (Nat.lt_of_lt_of_le e h.size) (fun g=>f (i k e g))).trans (h.block k e f)⟩
theorem Wrote.mono {a b:World} {F G:Nat->Prop} (h:Wrote a b F) (c:∀ k,F k->G k):Wrote a b G:=⟨h.os,h.tape,h.output,h.size,fun k d e=>h.block k d (fun f=>e (c k f))⟩
theorem Wrote.below {a b:World} {F:Nat->Prop} {B:Nat} (h:Wrote a b F) (hF:∀ k,F k->B<=k) (d:B<=a.heap.size):Below B a b:=
 ⟨h.os,h.tape,h.output,h.size,fun k c=>h.block k (by omega) (fun f=>by have:=hF k f;omega)⟩
theorem xN {a b:World} {F:Nat->Prop} (h:Below a.heap.size a b):Wrote a b F:=⟨h.os,h.tape,h.output,h.size,fun k c _=>h.block k c⟩
theorem xO {a b:World} {r:Option Nat} (h:a.grownBy b r):Wrote a b (fun k=>r=some k):=⟨h.os,h.tape,h.output,h.size,fun k c d=>h.block k c (fun e=>d e.symm)⟩
theorem Wrote.drewN {a b:World} {F:Nat->Prop} (h:Wrote a b F) (n:Nat):Wrote a (b.drewN n) F:=⟨h.os,h.tape,h.output,h.size,h.block⟩
theorem OwnW.wrote {W wr:World} {B:Nat} {v:Value} {xs:List Nat} {F:Nat->Prop} (h:OwnW W B v xs) (i:Wrote W wr F) (d:∀ k,v.ownBlock=some k->¬ F k):OwnW wr B v xs:=by
 refine⟨⟨h.own.1,?_⟩,h.fit⟩
 rcases h.own.2 with e | ⟨g,b,c,rfl,f,a,rest⟩
 ·exact .inl e
 ·exact .inr ⟨g,b,c,rfl,f,by rw [i.block g (Array.getElem?_eq_some_iff.1 a).1 (d g rfl)];exact a,rest⟩
theorem OwnW.lt {W:World} {B:Nat} {v:Value} {xs:List Nat} (h:OwnW W B v xs):∀ k,v.ownBlock=some k->B<=k/\k<W.heap.size:=h.own.lt
theorem getD_set {xs:List Nat} {i j x:Nat} (a:j<xs.length):(xs.set j x).getD i 0=if i=j then x else xs.getD i 0:=by
 by_cases h:i=j
 ·subst h;simp [List.getD,a]
 ·rw [if_neg h];simp [List.getD,List.getElem?_set_ne (fun e=>h e.symm)]
theorem qj (B:Nat) (v:Value) (xs:List Nat) (w:World) (h:OwnW w B v xs) (hn:xs.length<=100000000) :
  Calls Tryz.prog 133 #[v] w fun e l=>e=.returned (.int .u64 (endW xs:Nat))/\l=w:=by
 obtain⟨p,g,c,rfl,a,b,d,j⟩:=h.shape;have k:=hideS (show endW xs=xs.getD (xs.length - 1) 0 from rfl)
 rw [k.out];clear h k;generalize i:xs.length=n at *
 cases n with
 | zero=>
  have:xs=[]:=List.length_eq_zero_iff.1 i;subst this;clear d j i a b
  go_enter Tryz.func133,Tryz.ntmps133
  go_wp2
  go_ret
  exact⟨rfl,rfl⟩
 | succ m=>
  obtain⟨rfl,_⟩:=d (by omega)
  have f:=j m (by omega)
  clear j d i a b;rw [Nat.add_sub_cancel];generalize xs.getD m 0=x at f
  go_enter Tryz.func133,Tryz.ntmps133
  go_wp2
  go_ret
  exact⟨rfl,rfl⟩
theorem Bg (p:Option Addr) (g c n:Nat) (xs:List Nat) (w:World) (s:0<n->p=some ⟨g,0,none⟩) (hc:Hid (∀ j,j<n->w.cell? ⟨g,j,none⟩=some (.int .u64 (xs.getD j 0:Nat)))) (hn:n<=100000000) :
  Calls Tryz.prog 135 #[.slice p n c] w fun e u=>e=.returned (.bool (decide (ps (fun i=>xs.getD i 0) n≠0)))/\u=w:=by
 obtain⟨F,hF⟩:∃ F:Nat->Nat,F=fun i=>xs.getD i 0:=⟨_,rfl⟩
 have l:Hid (∀ j,j<n->w.cell? ⟨g,j,none⟩=some (.int .u64 (F j:Nat))):=by rw [hF];exact hc
 rw [<- hF];clear hc hF;obtain⟨r,h⟩:∃ r,decide (ps F n≠0)=r:=⟨_,rfl⟩;rw [h];have o:=hideS h;clear h
 go_enter Tryz.func135,Tryz.ntmps135
 go_wp2
 go_loop [4,7] (fun _ i=>∃ k:Nat,k<=n/\i=.int .i64 k/\Hid (ps F k=0)) (fun _ i=>n - (intOf i).toNat)
 case atStart=>exact⟨0,Nat.zero_le _,rfl,rfl⟩
 case round=>
  obtain⟨k,v,rfl,m⟩:=hrel
  by_cases b:k<n
  ·obtain rfl:=s (by omega)
   have d:=l.out k b
   by_cases a:F k=0
   ·have f:Hid (ps F (k+1)=0):=by show _=_;rw [ps,m.out,a];simp
    rw [a] at d
    clear a;go_wp2
    go_round
    case rel=>exact⟨k+1,by omega,by simp,f⟩
    case measure=>simp [intOf];omega
   ·have f:Hid (decide (ps F n≠0)=true):=by
     show _=_
     rw [decide_eq_true_eq];intro e;exact a (pO e k b)
    have t:((F k:Int)==0)=false:=by simpa using a
    clear a;generalize (F k:Int)=q at t d
    go_wp2
    go_ret
    exact⟨gE (f.out.symm.trans o.out),rfl⟩
  ·obtain rfl:k=n:=by omega
   have f:Hid (decide (ps F k≠0)=false):=by show _=_;simp [m.out]
   go_wp2
   go_ret
   exact⟨gE (f.out.symm.trans o.out),rfl⟩
def sI (a:Bool):Int:=if a then -1 else 1
theorem Bh (x y c:Nat) (hc:c<=1) (w:World):(callFunc 204 #[.int .u64 x,.int .u64 y,.int .u64 c]).run Tryz.prog w=.ok (.value (.tuple #[.int .u64 (((x+y+c) % 18446744073709551616:Nat):Int),.int .u64 (((x+y+c) / 18446744073709551616:Nat):Int)])) w:=
 Any7.bits_Add64 Tryz.addL x y c hc w
theorem qk (x y c:Nat) (hc:c<=1) (w:World):(callFunc 165 #[.int .u64 x,.int .u64 y,.int .u64 c]).run Tryz.prog w=.ok (.value (.tuple #[.int .u64 (((x+18446744073709551616 - y - c) % 18446744073709551616:Nat):Int),.int .u64 ((if x<y+c then 1 else 0:Nat):Int)])) w:=
 Any7.bits_Sub64 Tryz.subL x y c hc w
theorem nM (x y c:Nat) (hc:c<=1) (b:x<18446744073709551616) (a:y<18446744073709551616):∃ z c':Nat,(x+18446744073709551616 - y - c) % 18446744073709551616=z/\(if x<y+c then 1 else 0)=c'/\z<18446744073709551616/\c'<=1/\(z:Int)+(-1)*((c':Int)*18446744073709551616)=(x:Int)+(-1)*((y:Int)+c):=by
 refine⟨_,_,rfl,rfl,Nat.mod_lt _ (by decide),by split<;>omega,?_⟩
 split<;>omega
theorem xP (x y c:Nat) (hc:c<=1) (b:x<18446744073709551616) (a:y<18446744073709551616):∃ z c':Nat,(x+y+c) % 18446744073709551616=z/\(x+y+c) / 18446744073709551616=c'/\z<18446744073709551616/\c'<=1/\(z:Int)+1*((c':Int)*18446744073709551616)=(x:Int)+1*((y:Int)+c):=by
 refine⟨_,_,rfl,rfl,Nat.mod_lt _ (by decide),by omega,?_⟩
 omega
theorem lH (x y c:Nat) (a:Bool) (w:World) (hc:c<=1) (g:x<18446744073709551616) (h:y<18446744073709551616) :
  Calls Tryz.prog 184 #[.int .u64 x,.int .u64 y,.int .u64 c,.bool a] w fun e m=>(∃ z c':Nat,e=.returned (.tuple #[.int .u64 z,.int .u64 c'])/\z<18446744073709551616/\c'<=1/\(z:Int)+sI a*((c':Int)*18446744073709551616)=(x:Int)+sI a*((y:Int)+c))/\m=w:=by
 cases a
 ·obtain⟨z,c',d,f,j,i,b⟩:=xP x y c hc g h;have k:=Bh x y c hc;rw [d,f] at k
  have l:=hideS b;clear d f b g h
  go_enter Tryz.func184,Tryz.ntmps184
  go_wp2
  go_ret2
  exact⟨⟨z,c',rfl,j,i,l.out⟩,rfl⟩
 ·obtain⟨z,c',d,f,j,i,b⟩:=nM x y c hc g h;have k:=qk x y c hc;rw [d,f] at k
  have l:=hideS b;clear d f b g h
  go_enter Tryz.func184,Tryz.ntmps184
  go_wp2
  go_ret2
  exact⟨⟨z,c',rfl,j,i,l.out⟩,rfl⟩
end Go.Proofs.YtfdddijdjpijbaaGreat.A
