/-  -/
import Derived.Test.YtjjlnmihkadlmaaGreatHal
import Derived.Test.YtjjlnmihkadlmaaGreatHac
import Derived.Test.YtjjlnmihkadlmaaGreatAShelf
import Derived.WalkKit
import Derived.LoopTactic
import Derived.BigCall
import Derived.BigQuiet
import Derived.Maps.AppendAt
import Derived.Laws.OwnMore
import Derived.Deep.OwnRows
namespace Go.Proofs.YtjjlnmihkadlmaaGreat.A
open Go.RowKit

theorem hideS {p:Prop} (h:p):Hid p:=h
theorem turned {P:Program} {f:Nat} {args:Array Value} {w:World} {Q:Ending→Prop} (h:Calls P f args w fun e w'=>Q e∧w'=w):Calls P f args w fun e w'=>Q e∧w=w':=
 h.mono fun _ _ ⟨a,b⟩=>⟨a,b.symm⟩
theorem infoU:(Tryz.prog.info? 57).map (fun i=>(i.zero,i.size,i.bytes))=some (some (.int .u64 0),1,8):=by kernel_rfl
theorem own_below {w w':World} {B e size n:Nat} {v:Value} {xs:List Value} (h:w.ownsRow B e size v n xs) (hb:Below w.heap.size w w'):w'.ownsRow B e size v n xs:=by
 refine⟨h.1,?_⟩
 rcases h.2 with hn | ⟨g,cap,cur,rfl,hg,hgg,rest⟩
 ·exact .inl hn
 ·exact .inr ⟨g,cap,cur,rfl,hg,by rw [hb.block g (Array.getElem?_eq_some_iff.1 hgg).1];exact hgg,rest⟩

def uV (x:Nat):Value:=.int .u64 (x:Int)
def fV (x:Nat):Value:=.float .f64 x
theorem getD_some {l:List Nat} {i:Nat} (hi:i<l.length):l[i]? =some (l.getD i 0):=by simp [List.getD,List.getElem?_eq_getElem hi]
def rowOf (f:Nat→Value) (l:List Nat) (k:Nat):List Value:=(l.take k).map f
theorem take_next {f:Nat→Value} {l:List Nat} {k:Nat} (hk:k<l.length):rowOf f l (k+1)=rowOf f l k++[f (l.getD k 0)]:=by
 unfold rowOf
 rw [List.take_add_one,getD_some hk,List.map_append];rfl
theorem rowOf_all (f:Nat→Value) (l:List Nat):rowOf f l l.length=l.map f:=by unfold rowOf;rw [List.take_length]

structure Src (w:World) (p:Option Addr) (b off:Nat) (xs:List Nat):Prop where
 at_:0<xs.length→p=some ⟨b,off,none⟩
 lt:0<xs.length→b<w.heap.size
 cell:∀ j,j<xs.length→w.cell? ⟨b,off+j,none⟩=some (.float .f64 (xs.getD j 0))
theorem Src.below {w w':World} {p:Option Addr} {b off:Nat} {xs:List Nat} (h:Src w p b off xs) (hb:Below w.heap.size w w'):Src w' p b off xs:=
 ⟨h.at_,fun hx=>Nat.lt_of_lt_of_le (h.lt hx) hb.size,fun j hj=>(hb.cell (p:=⟨b,off+j,none⟩) (h.lt (by omega))).trans (h.cell j hj)⟩

structure OwnW (w:World) (B:Nat) (v:Value) (xs:List Nat):Prop where
 own:w.ownsRow B 57 1 v xs.length (xs.map uV)
 fit:FitW xs
theorem OwnW.below {w w':World} {B:Nat} {v:Value} {xs:List Nat} (h:OwnW w B v xs) (hb:Below w.heap.size w w'):OwnW w' B v xs:=⟨own_below h.own hb,h.fit⟩
theorem OwnW.drewN {W:World} {B:Nat} {v:Value} {xs:List Nat} (h:OwnW W B v xs) (n:Nat):OwnW (W.drewN n) B v xs:=⟨h.own,h.fit⟩
theorem OwnW.shape {w:World} {B:Nat} {v:Value} {xs:List Nat} (h:OwnW w B v xs) :
  ∃ p g c,v=.slice p xs.length c∧xs.length≤c∧c≤maxLen∧(0<xs.length→p=some ⟨g,0,none⟩ ∧B≤g∧g<w.heap.size)∧∀ j,j<xs.length→w.cell? ⟨g,j,none⟩=some (.int .u64 (xs.getD j 0:Nat)):=by
 rcases h.own.2 with⟨hv,hn⟩| ⟨g,cap,cur,hv,hb,hg,hc1,hc2,_⟩
 ·exact⟨none,0,0,by rw [hv,hn],by omega,by unfold maxLen;omega,fun h0=>by omega,fun j hj=>by omega⟩
 ·refine⟨some ⟨g,0,none⟩,g,cap,hv,hc1,hc2,fun _=>⟨rfl,hb,(Array.getElem?_eq_some_iff.1 hg).1⟩,fun j hj=>?_⟩
  have h2:=h.own
  rw [hv] at h2
  rw [h2.cellAt j (by omega),List.getElem?_map,getD_some hj];rfl
theorem OwnW.cell1 {w:World} {B g n c:Nat} {xs:List Nat} (h:OwnW w B (.slice (some ⟨g,0,none⟩) n c) xs) (hn:xs.length=n) (j:Nat) (hj:j<xs.length):w.cell? ⟨g,j,none⟩=some (.int .u64 (xs.getD j 0:Nat)):=by
 have h2:=h.own
 rw [hn] at h2
 rw [h2.cellAt j (by omega),List.getElem?_map,getD_some hj];rfl
theorem OwnW.frozen1 {w:World} {B g n c:Nat} {xs:List Nat} (h:OwnW w B (.slice (some ⟨g,0,none⟩) n c) xs) (hn:xs.length=n) (j:Nat):w.frozen? ⟨g,j,none⟩=false:=by
 have h2:=h.own
 rw [hn] at h2
 exact World.ownsRow.frozenAt h2 j
theorem OwnW.set {w:World} {B g n c:Nat} {xs:List Nat} (h:OwnW w B (.slice (some ⟨g,0,none⟩) n c) xs) (hn:xs.length=n) (j x:Nat) (hx:x<18446744073709551616) :
  OwnW (w.setCell ⟨g,j,none⟩ (.int .u64 (x:Int))) B (.slice (some ⟨g,0,none⟩) n c) (xs.set j x)∧w.grownBy (w.setCell ⟨g,j,none⟩ (.int .u64 (x:Int))) (some g):=by
 have h2:=h.own
 rw [hn] at h2
 have h3:=World.ownsRow.stored h2 j (.int .u64 (x:Int))
 refine⟨⟨by rw [List.length_set,hn,List.map_set];exact h3.1,fun i=>?_⟩,h3.2⟩
 by_cases hi:i=j
 ·subst hi
  by_cases hl:i<xs.length
  ·simp [List.getD,hl];exact hx
  ·have:=h.fit i
   simp [List.getD,List.getElem?_eq_none (show (xs.set i x).length≤i by simp;omega)]
 ·have:=h.fit i
  simpa [List.getD,List.getElem?_set_ne (fun e=>hi e.symm)] using this
structure Wrote (w w':World) (F:Nat→Prop):Prop where
 os:w'.os=w.os
 tape:w'.tape=w.tape
 output:w'.output=w.output
 size:w.heap.size≤w'.heap.size
 block:∀ k,k<w.heap.size→¬ F k→w'.heap[k]? =w.heap[k]?
theorem Wrote.refl (w:World) (F:Nat→Prop):Wrote w w F:=⟨rfl,rfl,rfl,Nat.le_refl _,fun _ _ _=>rfl⟩
theorem Wrote.trans {a b c:World} {F G:Nat→Prop} (h:Wrote a b F) (h':Wrote b c G) (hG:∀ k,k<a.heap.size→G k→F k):Wrote a c F:=
 ⟨h'.os.trans h.os,h'.tape.trans h.tape,h'.output.trans h.output,Nat.le_trans h.size h'.size,fun k hk hn=>(h'.block k (Nat.lt_of_lt_of_le hk h.size) (fun g=>hn (hG k hk g))).trans (h.block k hk hn)⟩
theorem Wrote.mono {a b:World} {F G:Nat→Prop} (h:Wrote a b F) (hG:∀ k,F k→G k):Wrote a b G:=⟨h.os,h.tape,h.output,h.size,fun k hk hn=>h.block k hk (fun f=>hn (hG k f))⟩
theorem Wrote.below {a b:World} {F:Nat→Prop} {B:Nat} (h:Wrote a b F) (hF:∀ k,F k→B≤k) (hB:B≤a.heap.size):Below B a b:=
 ⟨h.os,h.tape,h.output,h.size,fun k hk=>h.block k (by omega) (fun f=>by have:=hF k f;omega)⟩
theorem su {a b:World} {F:Nat→Prop} (h:Below a.heap.size a b):Wrote a b F:=⟨h.os,h.tape,h.output,h.size,fun k hk _=>h.block k hk⟩
theorem kw {a b:World} {r:Option Nat} (h:a.grownBy b r):Wrote a b (fun k=>r=some k):=⟨h.os,h.tape,h.output,h.size,fun k hk hn=>h.block k hk (fun e=>hn e.symm)⟩
theorem Wrote.drewN {a b:World} {F:Nat→Prop} (h:Wrote a b F) (n:Nat):Wrote a (b.drewN n) F:=⟨h.os,h.tape,h.output,h.size,h.block⟩
theorem OwnW.wrote {W wr:World} {B:Nat} {v:Value} {xs:List Nat} {F:Nat→Prop} (h:OwnW W B v xs) (hg:Wrote W wr F) (hne:∀ k,v.ownBlock=some k→¬ F k):OwnW wr B v xs:=by
 refine⟨⟨h.own.1,?_⟩,h.fit⟩
 rcases h.own.2 with hn | ⟨g,cap,cur,rfl,hb,hgg,rest⟩
 ·exact .inl hn
 ·exact .inr ⟨g,cap,cur,rfl,hb,by rw [hg.block g (Array.getElem?_eq_some_iff.1 hgg).1 (hne g rfl)];exact hgg,rest⟩
theorem OwnW.lt {W:World} {B:Nat} {v:Value} {xs:List Nat} (h:OwnW W B v xs):∀ k,v.ownBlock=some k→B≤k∧k<W.heap.size:=h.own.lt
theorem eU {xs:List Nat} {i j x:Nat} (hj:j<xs.length):(xs.set j x).getD i 0=if i=j then x else xs.getD i 0:=by
 by_cases h:i=j
 ·subst h;simp [List.getD,hj]
 ·rw [if_neg h];simp [List.getD,List.getElem?_set_ne (fun e=>h e.symm)]
end Go.Proofs.YtjjlnmihkadlmaaGreat.A
namespace Go.Proofs.YtjjlnmihkadlmaaGreat.A
open Go.RowKit

set_option maxHeartbeats 400000 in
theorem jr (B:Nat) (v:Value) (xs:List Nat) (w:World) (h:OwnW w B v xs) (hn:xs.length≤100000000) :
  Calls Tryz.prog 112 #[v] w fun e w'=>e=.returned (.int .u64 (endW xs:Nat))∧w'=w:=by
 obtain⟨p,g,c,rfl,hc1,hc2,hp,hc⟩:=h.shape
 have HE:=hideS (show endW xs=xs.getD (xs.length - 1) 0 from rfl)
 rw [HE.out]
 clear h HE
 generalize hN:xs.length=n at *
 cases n with
 | zero=>
  have:xs=[]:=List.length_eq_zero_iff.1 hN
  subst this
  clear hp hc hN hc1 hc2
  go_enter Tryz.func112,Tryz.ntmps112
  go_wp2
  go_ret
  exact⟨rfl,rfl⟩
 | succ m=>
  obtain⟨rfl,_⟩:=hp (by omega)
  have hcl:=hc m (by omega)
  clear hc hp hN hc1 hc2
  rw [Nat.add_sub_cancel]
  generalize xs.getD m 0=x at hcl
  go_enter Tryz.func112,Tryz.ntmps112
  go_wp2
  go_ret
  exact⟨rfl,rfl⟩

set_option maxHeartbeats 400000 in
theorem BD (B:Nat) (v:Value) (xs:List Nat) (i:Nat) (w:World) (h:OwnW w B v xs) (hn:xs.length≤100000000) (hi:i≤100000000) :
  Calls Tryz.prog 167 #[v,.int .i64 i] w fun e w'=>e=.returned (.int .u64 (wd xs i:Nat))∧w'=w:=by
 have HE:=hideS (jr B v xs w h hn)
 obtain⟨p,g,c,rfl,hc1,hc2,hp,hc⟩:=h.shape
 clear h
 have HW:=hideS (show wd xs i=if i<xs.length then xs.getD i 0 else endW xs from rfl)
 rw [HW.out]
 clear HW
 generalize xs.length=n at *
 by_cases hlt:i<n
 ·rw [if_pos hlt]
  obtain⟨rfl,_⟩:=hp (by omega)
  have hcl:=hc i (by omega)
  clear hc hp hc1 hc2
  generalize xs.getD i 0=x at hcl
  go_enter Tryz.func167,Tryz.ntmps167
  go_wp2
  go_ret
  exact⟨rfl,rfl⟩
 ·rw [if_neg hlt]
  clear hc hp
  generalize endW xs=x at HE
  go_enter Tryz.func167,Tryz.ntmps167
  go_wp2_with (go_at_call 112;refine HE.out.mono ?_;rintro e w' ⟨rfl,rfl⟩)
  go_ret
  exact⟨rfl,rfl⟩

set_option maxHeartbeats 400000 in
theorem vj (p:Option Addr) (g c n:Nat) (xs:List Nat) (w:World) (hp:0<n→p=some ⟨g,0,none⟩) (hc:Hid (∀ j,j<n→w.cell? ⟨g,j,none⟩=some (.int .u64 (xs.getD j 0:Nat)))) (hn:n≤100000000) :
  Calls Tryz.prog 114 #[.slice p n c] w fun e w'=>e=.returned (.bool (decide (ps (fun i=>xs.getD i 0) n≠0)))∧w'=w:=by
 obtain⟨F,hF⟩:∃ F:Nat→Nat,F=fun i=>xs.getD i 0:=⟨_,rfl⟩
 have hc2:Hid (∀ j,j<n→w.cell? ⟨g,j,none⟩=some (.int .u64 (F j:Nat))):=by rw [hF];exact hc
 rw [← hF]
 clear hc hF
 obtain⟨r,hr⟩:∃ r,decide (ps F n≠0)=r:=⟨_,rfl⟩
 rw [hr]
 have HR:=hideS hr
 clear hr
 go_enter Tryz.func114,Tryz.ntmps114
 go_wp2
 go_loop [4,7] (fun _ i=>∃ k:Nat,k≤n∧i=.int .i64 k∧Hid (ps F k=0)) (fun _ i=>n - (intOf i).toNat)
 case atStart=>exact⟨0,Nat.zero_le _,rfl,rfl⟩
 case round=>
  obtain⟨k,hk,rfl,HP⟩:=hrel
  by_cases hlt:k<n
  ·obtain rfl:=hp (by omega)
   have hcl:=hc2.out k hlt
   by_cases h0:F k=0
   ·have HN:Hid (ps F (k+1)=0):=by show _=_;rw [ps,HP.out,h0];simp
    rw [h0] at hcl
    clear h0
    go_wp2
    go_round
    case rel=>exact⟨k+1,by omega,by simp,HN⟩
    case measure=>simp [intOf];omega
   ·have HN:Hid (decide (ps F n≠0)=true):=by
     show _=_
     rw [decide_eq_true_eq]
     intro e
     exact h0 (lH e k hlt)
    have h1:((F k:Int)==0)=false:=by simpa using h0
    clear h0
    generalize (F k:Int)=q at h1 hcl
    go_wp2
    go_ret
    exact⟨eH (HN.out.symm.trans HR.out),rfl⟩
  ·obtain rfl:k=n:=by omega
   have HN:Hid (decide (ps F k≠0)=false):=by show _=_;simp [HP.out]
   go_wp2
   go_ret
   exact⟨eH (HN.out.symm.trans HR.out),rfl⟩

def sI (less:Bool):Int:=if less then -1 else 1
theorem lZ (x y c:Nat) (hc:c≤1) (w:World):(callFunc 166 #[.int .u64 x,.int .u64 y,.int .u64 c]).run Tryz.prog w=.ok (.value (.tuple #[.int .u64 (((x+y+c) % 18446744073709551616:Nat):Int),.int .u64 (((x+y+c) / 18446744073709551616:Nat):Int)])) w:=
 Any7.bits_Add64 Tryz.addL x y c hc w
theorem ma (x y c:Nat) (hc:c≤1) (w:World):(callFunc 153 #[.int .u64 x,.int .u64 y,.int .u64 c]).run Tryz.prog w=.ok (.value (.tuple #[.int .u64 (((x+18446744073709551616 - y - c) % 18446744073709551616:Nat):Int),.int .u64 ((if x<y+c then 1 else 0:Nat):Int)])) w:=
 Any7.bits_Sub64 Tryz.subL x y c hc w
theorem kx (x y c:Nat) (hc:c≤1) (hx:x<18446744073709551616) (hy:y<18446744073709551616):∃ z c':Nat,(x+18446744073709551616 - y - c) % 18446744073709551616=z∧(if x<y+c then 1 else 0)=c'∧z<18446744073709551616∧c'≤1∧(z:Int)+(-1)*((c':Int)*18446744073709551616)=(x:Int)+(-1)*((y:Int)+c):=by
 refine⟨_,_,rfl,rfl,Nat.mod_lt _ (by decide),by split<;>omega,?_⟩
 split<;>omega
theorem ky (x y c:Nat) (hc:c≤1) (hx:x<18446744073709551616) (hy:y<18446744073709551616):∃ z c':Nat,(x+y+c) % 18446744073709551616=z∧(x+y+c) / 18446744073709551616=c'∧z<18446744073709551616∧c'≤1∧(z:Int)+1*((c':Int)*18446744073709551616)=(x:Int)+1*((y:Int)+c):=by
 refine⟨_,_,rfl,rfl,Nat.mod_lt _ (by decide),by omega,?_⟩
 omega

set_option maxHeartbeats 400000 in
theorem js (x y c:Nat) (less:Bool) (w:World) (hc:c≤1) (hx:x<18446744073709551616) (hy:y<18446744073709551616) :
  Calls Tryz.prog 151 #[.int .u64 x,.int .u64 y,.int .u64 c,.bool less] w fun e w'=>(∃ z c':Nat,e=.returned (.tuple #[.int .u64 z,.int .u64 c'])∧z<18446744073709551616∧c'≤1∧(z:Int)+sI less*((c':Int)*18446744073709551616)=(x:Int)+sI less*((y:Int)+c))∧w'=w:=by
 cases less
 ·obtain⟨z,c',e1,e2,h1,h2,h3⟩:=ky x y c hc hx hy
  have ha:=lZ x y c hc
  rw [e1,e2] at ha
  have H3:=hideS h3
  clear e1 e2 h3 hx hy
  go_enter Tryz.func151,Tryz.ntmps151
  go_wp2
  go_ret2
  exact⟨⟨z,c',rfl,h1,h2,H3.out⟩,rfl⟩
 ·obtain⟨z,c',e1,e2,h1,h2,h3⟩:=kx x y c hc hx hy
  have ha:=ma x y c hc
  rw [e1,e2] at ha
  have H3:=hideS h3
  clear e1 e2 h3 hx hy
  go_enter Tryz.func151,Tryz.ntmps151
  go_wp2
  go_ret2
  exact⟨⟨z,c',rfl,h1,h2,H3.out⟩,rfl⟩
end Go.Proofs.YtjjlnmihkadlmaaGreat.A
