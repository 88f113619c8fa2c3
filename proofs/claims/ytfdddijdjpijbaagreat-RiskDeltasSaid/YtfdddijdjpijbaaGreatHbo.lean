/-  -/
import Derived.Test.YtfdddijdjpijbaaGreatHbn
import Derived.Test.YtfdddijdjpijbaaGreatHau
import Derived.Laws.MakeOwn
import Derived.Sort.Row
import Derived.Test.YtfdddijdjpijbaaGreatHbm
import Derived.Test.YtfdddijdjpijbaaGreatHbk
import Derived.Test.YtfdddijdjpijbaaGreatHbj
import Derived.Test.YtfdddijdjpijbaaGreatHbl
import Derived.Test.YtfdddijdjpijbaaGreatHas
set_option maxHeartbeats 12800000
set_option maxRecDepth 20000
namespace Go.Proofs.YtfdddijdjpijbaaGreat
open Go.RowKit
def qS (a b c d:Nat):Obj:=.cells #[.float .f64 a,.float .f64 b,.float .f64 c,.float .f64 d] 249
structure PBox (w:World) (kind:Int) (vx vy:Value) (wr:World):Prop where
 t0:wr.cell? ⟨w.heap.size,0,none⟩=some (.int .i64 kind)
 t1:wr.cell? ⟨w.heap.size,1,none⟩=some vx
 t2:wr.cell? ⟨w.heap.size,2,none⟩=some vy
 arr:wr.heap[w.heap.size+1]? =some (qS 0 0 0 0)
 bl:Below w.heap.size w wr
 lt:w.heap.size+1<wr.heap.size
theorem Ns (w:World) (kind:Int) (b a:Value):PBox w kind b a ((w.alloc (.cells #[.int .i64 kind,b,a] 195)).alloc (qS 0 0 0 0)):=by
 have d:(w.alloc (.cells #[.int .i64 kind,b,a] 195)).heap.size=w.heap.size+1:=by simp
 have c:∀ i,((w.alloc (.cells #[.int .i64 kind,b,a] 195)).alloc (qS 0 0 0 0)).cell? ⟨w.heap.size,i,none⟩=(w.alloc (.cells #[.int .i64 kind,b,a] 195)).cell? ⟨w.heap.size,i,none⟩:=fun i=>((Below.refl (w.heap.size+1) _).alloc (by omega) (qS 0 0 0 0)).cell (p:=⟨w.heap.size,i,none⟩) (by simp)
 refine⟨by rw [c];simp,by rw [c];simp,by rw [c];simp,by rw [<- d];exact heap_alloc_new _ _,((Below.refl _ _).alloc (Nat.le_refl _) _).alloc (by omega) _,by simp⟩
theorem PBox.step {w wr c:World} {kind:Int} {e d:Value} (h:PBox w kind e d wr) (a:Below wr.heap.size wr c):PBox w kind e d c:=by
 have b:w.heap.size<wr.heap.size:=by have:=h.lt;omega
 exact⟨(a.cell (p:=⟨w.heap.size,0,none⟩) b).trans h.t0,(a.cell (p:=⟨w.heap.size,1,none⟩) b).trans h.t1,(a.cell (p:=⟨w.heap.size,2,none⟩) b).trans h.t2,by rw [a.block _ h.lt];exact h.arr,h.bl.trans (a.mono h.bl.size),Nat.lt_of_lt_of_le h.lt a.size⟩
theorem PBox.drewN {w wr:World} {kind:Int} {b a:Value} (h:PBox w kind b a wr) (m:Nat):PBox w kind b a (wr.drewN m):=⟨h.t0,h.t1,h.t2,h.arr,⟨h.bl.os,h.bl.tape,h.bl.output,h.bl.size,h.bl.block⟩,h.lt⟩
theorem qT {w:World} {g a b c d:Nat} (h:w.heap[g]? =some (qS a b c d)):(w.cell? ⟨g,0,none⟩=some (.float .f64 a)/\w.cell? ⟨g,1,none⟩=some (.float .f64 b)/\w.cell? ⟨g,2,none⟩=some (.float .f64 c)/\w.cell? ⟨g,3,none⟩=some (.float .f64 d))/\∀ i,w.frozen? ⟨g,i,none⟩=false:=by
 unfold qS at h
 refine⟨⟨?_,?_,?_,?_⟩,fun i=>frozen_of_row w g i _ _ h⟩
 all_goals
  simp only [World.cell?,h,Option.isSome_none,Bool.false_eq_true,if_false]
  rfl
def set4 (w:World) (g a b c d:Nat):World:=(((w.setCell ⟨g,0,none⟩ (.float .f64 a)).setCell ⟨g,1,none⟩ (.float .f64 b)).setCell ⟨g,2,none⟩ (.float .f64 c)).setCell ⟨g,3,none⟩ (.float .f64 d)
theorem au {w:World} {g o:Nat} {cs:Array Value} {t:TypeId} (v:Value) (h:w.heap[g]? =some (.cells cs t (0,0))):(w.setCell ⟨g,o,none⟩ v).heap[g]? =some (.cells (cs.setIfInBounds o v) t (0,0)):=by
 rw [Go.Sort.setCell_eq];simp [Go.Sort.mapBlock,Array.getElem?_modify,h,Go.Sort.onCells]
theorem Kd {w:World} {g a b c d a' b' c' d':Nat} (h:w.heap[g]? =some (qS a b c d)):(set4 w g a' b' c' d').heap[g]? =some (qS a' b' c' d'):=by
 unfold qS at h
 exact au _ (au _ (au _ (au _ h)))
theorem BS (w:World) (g a b c d B:Nat) (e:B<=g):Below B w (set4 w g a b c d):=
 ((((Below.refl B w).setCell (p:=⟨g,0,none⟩) e _).setCell (p:=⟨g,1,none⟩) e _).setCell (p:=⟨g,2,none⟩) e _).setCell (p:=⟨g,3,none⟩) e _
theorem bJ (a:Addr) (x:Nat) (m:Mode) (w:World):(store a (.float .f64 x) m).run Tryz.prog w=stored Tryz.prog w a (.float .f64 x) m:=run_store Tryz.prog w a _ m rfl
theorem yU (kind:Int) (f j cx l d cy n k:Nat) (m o:Int) (y0 y1 h O L I H a0 p K U J q:Nat) (w s:World) (u:(w.alloc (.cells #[.int .i64 kind,.slice (some ⟨f,j,none⟩) n cx,.slice (some ⟨l,d,none⟩) n cy] 195)).alloc (qS 0 0 0 0)=s)
  (r:Hid (PBox w kind (.slice (some ⟨f,j,none⟩) n cx) (.slice (some ⟨l,d,none⟩) n cy) s)) (c0:s.cell? ⟨f,j+k,none⟩=some (.int .i64 m)) (c1:s.cell? ⟨f,j+(k+1),none⟩=some (.int .i64 o)) (c2:s.cell? ⟨l,d+k,none⟩=some (.float .f64 y0)) (c3:s.cell? ⟨l,d+(k+1),none⟩=some (.float .f64 y1))
  (ab:k+1<n) (hn:n<=1000) (h0:0<=m) (h1:m<=109572) (h2:0<=o) (h3:o<=109572) (qf:floatOfInt .f64 (o - m)=h)
  (T:floatBits .mul .f64 O h=some I) (V:floatBits .quo .f64 I 4613937818241073152=some H) (M:floatBits .add .f64 y0 H=some a0) (Q:floatBits .mul .f64 L h=some K) (G:floatBits .quo .f64 K 4613937818241073152=some U) (S:floatBits .sub .f64 y1 U=some J)
  (B:Hid (∀ a,Below w.heap.size w a->Calls Tryz.prog 227 #[.agg #[.int .i64 kind,.slice (some ⟨f,j,none⟩) n cx,.slice (some ⟨l,d,none⟩) n cy],.int .i64 (k:Int)] a fun e b=>e=.returned (.float .f64 O)/\Below a.heap.size a b))
  (C:Hid (∀ a,Below w.heap.size w a->Calls Tryz.prog 227 #[.agg #[.int .i64 kind,.slice (some ⟨f,j,none⟩) n cx,.slice (some ⟨l,d,none⟩) n cy],.int .i64 ((k:Int)+1)] a fun e b=>e=.returned (.float .f64 L)/\Below a.heap.size a b))
  (D:Hid (∀ a,Calls Tryz.prog 224 #[.float .f64 a0,.float .f64 y0,.float .f64 y1] a fun e b=>e=.returned (.float .f64 p)/\b=a))
  (A:Hid (∀ a,Calls Tryz.prog 224 #[.float .f64 J,.float .f64 p,.float .f64 y1] a fun e b=>e=.returned (.float .f64 q)/\b=a)) :
  Calls Tryz.prog 221 #[.agg #[.int .i64 kind,.slice (some ⟨f,j,none⟩) n cx,.slice (some ⟨l,d,none⟩) n cy],.int .i64 (k:Int)] w fun e b=>e=.returned (.agg #[.float .f64 y0,.float .f64 p,.float .f64 q,.float .f64 y1])/\Below w.heap.size w b:=by
 have f1:IntKind.i64.wrap ((k:Int)+1)=(k:Int)+1:=by rw [IntKind.wrap_i64];omega
 have f2:IntKind.i64.wrap (o - m)=o - m:=by rw [IntKind.wrap_i64];omega
 have g1:(0:Int)<=(k:Int)+1:=by omega
 have g2:(k:Int)+1<(n:Int):=by omega
 have g3:(0:Int)<=(k:Int):=by omega
 have g4:(k:Int)<(n:Int):=by omega
 have r1:=fun w=>run_float_arith (P:=Tryz.prog) w .mul 27 .f64 _ _ _ T
 have r2:=fun w=>run_float_arith (P:=Tryz.prog) w .quo 27 .f64 _ _ _ V
 have r3:=fun w=>run_float_arith (P:=Tryz.prog) w .add 27 .f64 _ _ _ M
 have r4:=fun w=>run_float_arith (P:=Tryz.prog) w .mul 27 .f64 _ _ _ Q
 have r5:=fun w=>run_float_arith (P:=Tryz.prog) w .quo 27 .f64 _ _ _ G
 have r6:=fun w=>run_float_arith (P:=Tryz.prog) w .sub 27 .f64 _ _ _ S
 have E:=r.out.t0;have y:=r.out.t1;have z:=r.out.t2;clear T V M Q G S;unfold qS at u
 go_enter Tryz.func221,Tryz.ntmps221
 go_wp2_with fail
 clear u
 go_quiet (fail)
 go_wp2_with fail
 go_quiet (fail)
 go_wp2_with fail
 refine (B.out _ (r.out.drewN _).bl).mono ?_
 rintro e w1 ⟨rfl,t⟩;have c:=hideS ((r.out.drewN _).step t);clear t E y z c0 c1 c2 c3 r;have E:=c.out.t0;have y:=c.out.t1;have z:=c.out.t2
 go_wp2_with fail
 refine (D.out _).mono ?_
 rintro e b ⟨rfl,rfl⟩
 go_wp2_with fail
 refine (C.out _ c.out.bl).mono ?_
 rintro e w2 ⟨rfl,x⟩;have i:=hideS (c.out.step x);clear x E y z c
 go_wp2_with fail
 refine (A.out _).mono ?_
 rintro e b ⟨rfl,rfl⟩;obtain⟨⟨c0,c1,c2,c3⟩,fz⟩:=qT i.out.arr;have X:=bJ;have z0:=fz 0;have z1:=fz 1;have z2:=fz 2;have z3:=fz 3;clear fz
 go_wp2_with fail
 obtain⟨R,g⟩:∃ R,set4 b (w.heap.size+1) y0 p q y1=R:=⟨_,rfl⟩;have N:=hideS (qT (Kd (a':=y0) (b':=p) (c':=q) (d':=y1) i.out.arr)).1;have F:=hideS (i.out.bl.trans (BS b (w.heap.size+1) y0 p q y1 w.heap.size (by omega)))
 rw [g] at N F
 unfold set4 at g
 rw [g];obtain⟨Z,v1,W,Y⟩:=N.out;refine bodyPost_ret (v:=.agg #[.float .f64 y0,.float .f64 p,.float .f64 q,.float .f64 y1]) (by simp [results,Tryz.results221,go_sem,Z,v1,W,Y]) rfl ⟨rfl,F.out⟩
theorem fi3:fi 3=4613937818241073152:=by decide+kernel
theorem BT (kind:Int) (r p:Option Addr) (E D cx z t cy k:Nat) (xs:List Int) (ys:List Nat) (w:World) (h:OkT kind xs ys) (f:TFl w r p E D z t xs ys) (l:k+1<xs.length) :
  Calls Tryz.prog 221 #[.agg #[.int .i64 kind,.slice r xs.length cx,.slice p ys.length cy],.int .i64 (k:Int)] w fun e A=>e=.returned (.agg #[.float .f64 ((ptL xs ys k).getD 0 0),.float .f64 ((ptL xs ys k).getD 1 0),.float .f64 ((ptL xs ys k).getD 2 0),.float .f64 ((ptL xs ys k).getD 3 0)])/\Below w.heap.size w A:=by
 have T:=h.len;have v:=Ns w kind (.slice r xs.length cx) (.slice p ys.length cy);have d:=f.below v.bl;have B:Hid (∀ c,Below w.heap.size w c->∀ j,j<xs.length->Calls Tryz.prog 227 #[.agg #[.int .i64 kind,.slice r xs.length cx,.slice p ys.length cy],.int .i64 (j:Int)] c fun e A=>e=.returned (.float .f64 ((bI xs ys xs.length).getD j 0))/\Below c.heap.size c A):=fun c q j Q=>FP kind r p E D cx z t cy j xs ys c h (f.below q) Q
 obtain rfl:=f.x.at_ (by omega)
 obtain rfl:=f.y.at_ (by omega)
 have V:=h.step l;have H:=ap (h.node k (by omega))
 have I:=ap (h.node (k+1) l);obtain⟨P,o⟩:=iK (m:=xs.getD (k+1) 0 - xs.getD k 0) (by omega) (by omega)
 obtain⟨O,n⟩:=iK (m:=3) (by decide) (by decide)
 have a:=aL h f.u (i:=k) (by omega)
 have b:=aL h f.u l;have S:=gW h f.u k;have U:=gW h f.u (k+1);have M:=jX S P o;have G:=iI M O n;have s:=oT a G;have F:=jX U P o;have K:=iI F O n;have N:=vO b K;have R:NumW (ptP (fi (xs.getD (k+1) 0 - xs.getD k 0)) ((bI xs ys xs.length).getD k 0) (ys.getD k 0) (ys.getD (k+1) 0)):=by
  rcases Int.le_total (ae (ys.getD k 0:Nat)) (ae (ys.getD (k+1) 0:Nat)) with C | C
  ·exact (mV s a b C).1
  ·exact (mW s a b C).1
 have L:=gX G;have J:=gX K;rw [fi3] at L J
 have g:∀ c,Below w.heap.size w c->_:=fun c q=>B.out c q (k+1) l
 rw [Int.natCast_add,Int.natCast_one] at g
 have c0:=d.x.cell k (by omega)
 have c1:=d.x.cell (k+1) l;have c2:=d.y.cell k (by omega)
 have c3:=d.y.cell (k+1) (by omega)
 rw [T] at v B g c0 c1 c2 c3 ⊢
 exact yU kind E D cx z t cy xs.length k _ _ _ _ _ _ _ _ _ _ _ _ _ _ _ w _ rfl v c0 c1 c2 c3 l (by have:=h.hi;omega) H.1 H.2.1 I.1 I.2.1 (bF _)
  (yQ M) L (fi3▸yR s) (yQ F) J (fi3▸yP N) (fun c q=>B.out c q k (by omega)) g (fun c=>fi3▸nj _ _ _ c s.lt a b) (fun c=>fi3▸nj _ _ _ c N.lt R b)
def RowF (w:World) (g N:Nat) (b:List Nat):Prop:=∃ a:Array Value,w.heap[g]? =some (.cells a 27 (0,0))/\a.size=N/\a.toList.take b.length=b.map fV
theorem RowF.stay {w a:World} {g N B:Nat} {b:List Nat} (h:RowF w g N b) (d:Below B w a) (e:g<B):RowF a g N b:=by
 obtain⟨c,i,f⟩:=h;exact⟨c,by rw [d.block g e];exact i,f⟩
theorem RowF.lt {w:World} {g N:Nat} {a:List Nat} (h:RowF w g N a):g<w.heap.size:=by
 obtain⟨c,b,_⟩:=h;exact (Array.getElem?_eq_some_iff.1 b).1
theorem RowF.cell {w:World} {g N:Nat} {b:List Nat} (h:RowF w g N b) {k:Nat} (d:k<N):∃ u,w.cell? ⟨g,k,none⟩=some u:=by
 obtain⟨a,c,e,_⟩:=h;refine⟨a[k]'(by omega),?_⟩
 simp only [World.cell?,c,Option.isSome_none,Bool.false_eq_true,if_false];exact Array.getElem?_eq_getElem (by omega)
theorem RowF.frozen {w:World} {g N:Nat} {b:List Nat} (h:RowF w g N b) (k:Nat):w.frozen? ⟨g,k,none⟩=false:=by
 obtain⟨a,c,_⟩:=h;exact frozen_of_row w g k a _ c
theorem RowF.own {w:World} {g N base:Nat} {a:List Nat} (h:RowF w g N a) (b:a.length=N) (d:base<=g) (i:N<=100000):w.ownsRow base 27 1 (.slice (some ⟨g,0,none⟩) N N) N (a.map fV):=by
 obtain⟨c,f,j,e⟩:=h;refine⟨by rw [List.length_map,b,Nat.mul_one],.inr ⟨g,N,c,rfl,d,f,Nat.le_refl _,by unfold maxLen;omega,by omega,?_⟩⟩
 rw [Nat.mul_one,<- b];exact e
theorem Ke {w:World} {g N k:Nat} {a:List Nat} (d:Nat) (h:RowF w g N (a.take k)) (r:k<N) (i:k<a.length) (e:a.getD k 0=d):RowF (w.setCell ⟨g,k,none⟩ (.float .f64 d)) g N (a.take (k+1)):=by
 obtain⟨q,n,m,f⟩:=h;refine⟨_,au _ n,by simp [m],?_⟩
 have o:(a.take k).length=k:=by simp;omega
 have p:(a.take (k+1)).length=k+1:=by simp;omega
 rw [o] at f
 rw [p];apply List.ext_getElem?;intro j
 by_cases c:j<k+1
 ·rw [List.getElem?_take_of_lt c]
  simp only [Array.getElem?_toList,Array.getElem?_setIfInBounds]
  by_cases b:k=j
  ·subst b;rw [if_pos rfl,if_pos (by omega),List.getElem?_map,List.getElem?_take_of_lt c,List.getElem?_eq_getElem i]
   rw [List.getD_eq_getElem?_getD,List.getElem?_eq_getElem i] at e
   simp only [Option.getD_some] at e
   rw [Option.map_some,e];rfl
  ·rw [if_neg b];have:=congrArg (fun l=>l[j]?) f
   rw [List.getElem?_take_of_lt (by omega),Array.getElem?_toList,List.getElem?_map,List.getElem?_take_of_lt (by omega)] at this
   rw [this,List.getElem?_map,List.getElem?_take_of_lt c]
 ·rw [List.getElem?_eq_none (by simp;omega),List.getElem?_eq_none (by simp;omega)]
theorem FR (w:World) (N:Nat) (z:Array Value):RowF (w.alloc (.cells (madeCells z N) 27)) w.heap.size N []:=
 ⟨_,heap_alloc_new w _,size_madeCells _ _,by simp⟩
theorem nT (l r D a b R:Nat) (w:World) (Z:l<=109572) (hr:r<=109572) (U:l+r=D) (g:0<D) (u:NumW a) (q:NumW b) (E:aQ (wAt [(l:Int),(r:Int)] [a,b] 2) D=R) :
  Calls Tryz.prog 220 #[.int .i64 (l:Int),.int .i64 (r:Int),.float .f64 a,.float .f64 b] w fun e W=>e=.returned (.float .f64 R)/\Below w.heap.size w W:=by
 have C:=vN (K:=1074) rfl (a:=(l:Int)) (b:=(r:Int)) ⟨by omega,by omega⟩ ⟨by omega,by omega⟩ u.lt u.nb q.lt q.nb
 have y:(wAt [(l:Int),(r:Int)] [a,b] 2).s=0:=by rw [C]
 have B:A.gS (wAt [(l:Int),(r:Int)] [a,b] 2).N D=R:=by rw [<- E];unfold aQ;rw [if_pos y]
 have M:wAt [(l:Int),(r:Int)] [a,b] 2=((⟨0,0⟩:A.St).merge (A.bn (fi (l:Int)) a)).merge (A.bn (fi (r:Int)) b):=rfl;have I:=aU (kw (n:=(l:Int)) (by omega) (by omega))
 have z:=aU (kw (n:=(r:Int)) (by omega) (by omega))
 have J:=aU u.lt;have L:=aU q.lt;have f1:=bF (l:Int);have f2:=bF (r:Int);have f3:IntKind.i64.wrap ((l:Int)+(r:Int))=(D:Int):=by rw [IntKind.wrap_i64];omega
 clear C E;generalize fi (l:Int)=X at *
 generalize fi (r:Int)=Y at *
 generalize wAt [(l:Int),(r:Int)] [a,b] 2=T at *
 have i:=hideS (A.vE w w.heap.size (Nat.le_refl _));have x:=hideS (And.intro M (And.intro y B));have v:=hideS (And.intro I (And.intro z (And.intro J L)));have p:=hideS (And.intro g (show D<9223372036854775808 by omega))
 clear M y B I z J L u q U g Z hr
 go_enter Tryz.func220,Tryz.ntmps220
 go_wp2_with fail
 refine i.out.mono ?_
 rintro e G ⟨rfl,F,H⟩;have o:Hid (A.Run w G w.heap.size (.slice none 0 0) 0 ⟨0,0⟩):=⟨F,H⟩;clear F H i;have m:=hideS (A.gT w.heap.size w.heap.size _ 0 _ X a G o.out.acc o.out.bl.size v.out.1 v.out.2.2.1 (by omega))
 go_wp2_with fail
 refine m.out.mono ?_
 rintro e V ⟨rfl,q1,O,k⟩;have t:=hideS ((o.out.drewN q1).did k);clear k o m;have j:=hideS (A.gT w.heap.size w.heap.size O _ _ Y b V t.out.acc t.out.bl.size v.out.2.1 v.out.2.2.2 (by omega))
 go_wp2_with fail
 refine j.out.mono ?_
 rintro e P ⟨rfl,q2,Q,f⟩;have d:=hideS ((t.out.drewN q2).did f);clear f t j;rw [<- x.out.1] at d
 have c:=hideS (A.xX w.heap.size w.heap.size Q _ T D P d.out.acc d.out.bl.size (by omega) p.out.1 p.out.2 x.out.2.1 (A.tW p.out.1 (by have:=p.out.2;omega)))
 rw [x.out.2.2] at c
 go_wp2_with fail
 refine c.out.mono ?_
 rintro e w3 ⟨rfl,h⟩;have S:=hideS (d.out.bl.trans (h.mono d.out.bl.size));clear h d c
 go_wp2_with fail
 go_ret
 exact⟨rfl,S.out⟩
theorem Kl (kind x:Int) (a f:Option Addr) (o l cx d b cy k:Nat) (xs:List Int) (ys:List Nat) (w:World) (hn:ys.length<=256) (h:TFl w a f o l d b xs ys) (q:k<ys.length) :
  Calls Tryz.prog 212 #[.agg #[.int .i64 kind,.slice a xs.length cx,.slice f ys.length cy],.int .i64 (k:Int),.int .i64 x] w fun e j=>e=.returned (.float .f64 (ys.getD k 0))/\Below w.heap.size w j:=by
 have c:=hideS (cH w kind (.slice a xs.length cx) (.slice f ys.length cy));obtain rfl:=h.y.at_ (by omega)
 have c0:(w.alloc (.cells #[.int .i64 kind,.slice a xs.length cx,.slice (some ⟨d,b,none⟩) ys.length cy] 195)).cell? ⟨d,b+k,none⟩=some (.float .f64 (ys.getD k 0)):=(h.below c.out.bl).y.cell k q;have p:=c.out.t2;clear h;generalize ys.getD k 0=y at *
 generalize ys.length=n at *
 generalize xs.length=m at *
 obtain⟨i,g⟩:∃ i,w.alloc (.cells #[.int .i64 kind,.slice a m cx,.slice (some ⟨d,b,none⟩) n cy] 195)=i:=⟨_,rfl⟩;rw [g] at c0 p c
 go_enter Tryz.func212,Tryz.ntmps212
 go_wp2_with fail
 go_ret
 exact⟨rfl,c.out.bl⟩
structure PieR (w:World) (kind:Int) (vx vy:Value) (bx ox b2 oy k:Nat) (x0 x1:Int) (y0 y1:Nat) (wr:World):Prop where
 box:TBox w kind vx vy wr
 a0:wr.cell? ⟨bx,ox+k,none⟩=some (.int .i64 x0)
 a1:wr.cell? ⟨bx,ox+(k+1),none⟩=some (.int .i64 x1)
 b0:wr.cell? ⟨b2,oy+k,none⟩=some (.float .f64 y0)
 b1:wr.cell? ⟨b2,oy+(k+1),none⟩=some (.float .f64 y1)
 lx:bx<wr.heap.size
 ly:b2<wr.heap.size
theorem PieR.step {w wr f:World} {kind:Int} {l i:Value} {b e c d k:Nat} {g j:Int} {y0 y1:Nat} (h:PieR w kind l i b e c d k g j y0 y1 wr) (a:Below wr.heap.size wr f):PieR w kind l i b e c d k g j y0 y1 f:=
 ⟨h.box.step a,(a.cell (p:=⟨b,e+k,none⟩) h.lx).trans h.a0,(a.cell (p:=⟨b,e+(k+1),none⟩) h.lx).trans h.a1,(a.cell (p:=⟨c,d+k,none⟩) h.ly).trans h.b0,(a.cell (p:=⟨c,d+(k+1),none⟩) h.ly).trans h.b1,Nat.lt_of_lt_of_le h.lx a.size,Nat.lt_of_lt_of_le h.ly a.size⟩
theorem PieR.drewN {w wr:World} {kind:Int} {g d:Value} {a i b e k:Nat} {c f:Int} {y0 y1:Nat} (h:PieR w kind g d a i b e k c f y0 y1 wr) (m:Nat):PieR w kind g d a i b e k c f y0 y1 (wr.drewN m):=⟨h.box.drewN m,h.a0,h.a1,h.b0,h.b1,h.lx,h.ly⟩
theorem PieR.drew {w wr:World} {kind:Int} {g d:Value} {a i b e k:Nat} {c f:Int} {y0 y1:Nat} (h:PieR w kind g d a i b e k c f y0 y1 wr):PieR w kind g d a i b e k c f y0 y1 wr.drew:=h.drewN 1
theorem PT {w:World} {kind:Int} {c b:Option Addr} {d h cx e f cy k:Nat} {xs:List Int} {ys:List Nat} (i:TFl w c b d h e f xs ys) (l:ys.length=xs.length) (j:k+1<xs.length) :
  PieR w kind (.slice c xs.length cx) (.slice b ys.length cy) d h e f k (xs.getD k 0) (xs.getD (k+1) 0) (ys.getD k 0) (ys.getD (k+1) 0) (w.alloc (.cells #[.int .i64 kind,.slice c xs.length cx,.slice b ys.length cy] 195)):=by
 have g:=cH w kind (.slice c xs.length cx) (.slice b ys.length cy);have a:=i.below g.bl;exact⟨g,a.x.cell k (by omega),a.x.cell (k+1) j,a.y.cell k (by omega),a.y.cell (k+1) (by omega),a.x.lt (by omega),a.y.lt (by omega)⟩
theorem ze (kind x:Int) (g f cx d c cy n k l r:Nat) (i h:Int) (y0 y1 R:Nat) (w p:World) (j:w.alloc (.cells #[.int .i64 kind,.slice (some ⟨g,f,none⟩) n cx,.slice (some ⟨d,c,none⟩) n cy] 195)=p)
  (a:Hid (PieR w kind (.slice (some ⟨g,f,none⟩) n cx) (.slice (some ⟨d,c,none⟩) n cy) g f d c k i h y0 y1 p)) (t:k+1<n) (hn:n<=1000) (u:h - x=(l:Int)) (v:x - i=(r:Int)) (bl:l<=109572) (K:r<=109572)
  (q:Hid (∀ o,Calls Tryz.prog 220 #[.int .i64 (l:Int),.int .i64 (r:Int),.float .f64 y0,.float .f64 y1] o fun e m=>e=.returned (.float .f64 R)/\Below o.heap.size o m)) :
  Calls Tryz.prog 213 #[.agg #[.int .i64 kind,.slice (some ⟨g,f,none⟩) n cx,.slice (some ⟨d,c,none⟩) n cy],.int .i64 (k:Int),.int .i64 x] w fun e m=>e=.returned (.float .f64 R)/\Below w.heap.size w m:=by
 have y:IntKind.i64.wrap ((k:Int)+1)=(k:Int)+1:=by rw [IntKind.wrap_i64];omega
 have I:IntKind.i64.wrap (h - x)=(l:Int):=by rw [IntKind.wrap_i64];omega
 have D:IntKind.i64.wrap (x - i)=(r:Int):=by rw [IntKind.wrap_i64];omega
 have G:(0:Int)<=(k:Int)+1:=by omega
 have C:(k:Int)+1<(n:Int):=by omega
 have L:(0:Int)<=(k:Int):=by omega
 have E:(k:Int)<(n:Int):=by omega
 have z:=a.out.box.t1;have J:=a.out.box.t2;have B:=a.out.a0;have M:=a.out.a1;have F:=a.out.b0;have H:=a.out.b1;clear u v
 go_enter Tryz.func213,Tryz.ntmps213
 go_wp2_with fail
 clear j
 go_quiet (fail)
 go_wp2_with fail
 go_region_with ((go_at_call 220;refine (q.out _).mono ?_;rintro e A ⟨rfl,b⟩;have s:=hideS ((a.out.drewN _).box.step b).bl;clear b))
 all_goals
  go_wp2_with fail
  go_ret
  exact⟨rfl,s.out⟩
theorem PieR.all {w wr:World} {kind:Int} {g c:Value} {d i a b k:Nat} {e f:Int} {y0 y1:Nat} (h:PieR w kind g c d i a b k e f y0 y1 wr):wr.cell? ⟨w.heap.size,2,none⟩=some c/\wr.cell? ⟨a,b+k,none⟩=some (.float .f64 y0)/\wr.cell? ⟨a,b+(k+1),none⟩=some (.float .f64 y1):=⟨h.box.t2,h.b0,h.b1⟩
theorem BU (kind x:Int) (g f cx c b cy n k l r:Nat) (t o:Int) (y0 y1 N J R E H:Nat) (w A:World) (D:w.alloc (.cells #[.int .i64 kind,.slice (some ⟨g,f,none⟩) n cx,.slice (some ⟨c,b,none⟩) n cy] 195)=A)
  (p:Hid (PieR w kind (.slice (some ⟨g,f,none⟩) n cx) (.slice (some ⟨c,b,none⟩) n cy) g f c b k t o y0 y1 A)) (T:k+1<n) (hn:n<=1000) (V:o - x=(l:Int)) (X:x - t=(r:Int)) (bl:l<=109572) (br:r<=109572)
  (F:Hid (∀ a,Calls Tryz.prog 223 #[.float .f64 y0] a fun e d=>e=.returned (.float .f64 N)/\Below a.heap.size a d))
  (I:Hid (∀ a,Calls Tryz.prog 223 #[.float .f64 y1] a fun e d=>e=.returned (.float .f64 J)/\Below a.heap.size a d))
  (O:Hid (∀ a,Calls Tryz.prog 220 #[.int .i64 (l:Int),.int .i64 (r:Int),.float .f64 N,.float .f64 J] a fun e d=>e=.returned (.float .f64 R)/\Below a.heap.size a d))
  (U:Hid (∀ a,Calls Tryz.prog 54 #[.float .f64 R] a fun e d=>e=.returned (.float .f64 E)/\Below a.heap.size a d))
  (W:Hid (∀ a,Calls Tryz.prog 224 #[.float .f64 E,.float .f64 y0,.float .f64 y1] a fun e d=>e=.returned (.float .f64 H)/\d=a)) :
  Calls Tryz.prog 215 #[.agg #[.int .i64 kind,.slice (some ⟨g,f,none⟩) n cx,.slice (some ⟨c,b,none⟩) n cy],.int .i64 (k:Int),.int .i64 x] w fun e d=>e=.returned (.float .f64 H)/\Below w.heap.size w d:=by
 have f1:IntKind.i64.wrap ((k:Int)+1)=(k:Int)+1:=by rw [IntKind.wrap_i64];omega
 have f2:IntKind.i64.wrap (o - x)=(l:Int):=by rw [IntKind.wrap_i64];omega
 have f3:IntKind.i64.wrap (x - t)=(r:Int):=by rw [IntKind.wrap_i64];omega
 have g1:(0:Int)<=(k:Int)+1:=by omega
 have g2:(k:Int)+1<(n:Int):=by omega
 have g3:(0:Int)<=(k:Int):=by omega
 have g4:(k:Int)<(n:Int):=by omega
 have v:Hid (∀ m,PieR w kind (.slice (some ⟨g,f,none⟩) n cx) (.slice (some ⟨c,b,none⟩) n cy) g f c b k t o y0 y1 (A.drewN m)):=fun m=>p.out.drewN m
 have P:=p.out.box.t1;have S:=p.out.a0;have Y:=p.out.a1;clear V X
 go_enter Tryz.func215,Tryz.ntmps215
 go_wp2_with fail
 clear D
 go_quiet (fail)
 go_wp2_with fail
 clear P S Y p;generalize y:A.drewN _=Q at *
 have h:Hid (PieR w kind (.slice (some ⟨g,f,none⟩) n cx) (.slice (some ⟨c,b,none⟩) n cy) g f c b k t o y0 y1 Q):=by show PieR _ _ _ _ _ _ _ _ _ _ _ _ _ _;rw [<- y];exact v.out _
 clear y v;have M:=h.out.box.t2;have K:=h.out.b0;have L:=h.out.b1
 go_region_held3 (fun x=>x.cell? ⟨w.heap.size,2,none⟩=some (.slice (some ⟨c,b,none⟩) n cy)/\x.cell? ⟨c,b+k,none⟩=some (.float .f64 y0)/\x.cell? ⟨c,b+(k+1),none⟩=some (.float .f64 y1)) (first | exact h.out.all | exact C.out.all | exact G.out.all | exact B.out.all | exact i.out.all | go_keep) (first | ((go_at_call_of 223 (Value.float FloatKind.f64 y0);refine (F.out _).mono ?_;rintro e w2 ⟨rfl,z⟩;have C:=hideS (h.out.drew.step z);clear z)) | ((go_at_call_of 223 (Value.float FloatKind.f64 y1);refine (I.out _).mono ?_;rintro e w3 ⟨rfl,u⟩;have G:=hideS (C.out.step u);clear u)) | ((go_at_call 220;refine (O.out _).mono ?_;rintro e w4 ⟨rfl,j⟩;have B:=hideS (G.out.step j);clear j)) | ((go_at_call 54;refine (U.out _).mono ?_;rintro e Z ⟨rfl,q⟩;have i:=hideS (B.out.step q);clear q)))
 all_goals
  clear M K L;have M:=i.out.box.t2;have K:=i.out.b0;have L:=i.out.b1;have s:=hideS i.out.box.bl;clear h C G B i
  go_wp2_with fail
  go_region_with ((go_at_call 224;refine (W.out _).mono ?_;rintro e w6 ⟨rfl,rfl⟩))
  all_goals
   go_wp2_with fail
   go_ret
   exact⟨rfl,s.out.os,s.out.tape,s.out.output,s.out.size,s.out.block⟩
def jy (a b c d:Int):Obj:=.cells #[.int .i64 a,.int .i64 b,.int .i64 c,.int .i64 d] 248
theorem nU {w:World} {g:Nat} {a b c d:Int} (h:w.heap[g]? =some (jy a b c d)):(w.cell? ⟨g,0,none⟩=some (.int .i64 a)/\w.cell? ⟨g,1,none⟩=some (.int .i64 b)/\w.cell? ⟨g,2,none⟩=some (.int .i64 c)/\w.cell? ⟨g,3,none⟩=some (.int .i64 d))/\∀ i,w.frozen? ⟨g,i,none⟩=false:=by
 unfold jy at h
 refine⟨⟨?_,?_,?_,?_⟩,fun i=>frozen_of_row w g i _ _ h⟩
 all_goals
  simp only [World.cell?,h,Option.isSome_none,Bool.false_eq_true,if_false]
  rfl
def zf (w:World) (g:Nat) (a b c d:Int):World:=(((w.setCell ⟨g,0,none⟩ (.int .i64 a)).setCell ⟨g,1,none⟩ (.int .i64 b)).setCell ⟨g,2,none⟩ (.int .i64 c)).setCell ⟨g,3,none⟩ (.int .i64 d)
theorem tX {w:World} {g:Nat} {a b c d a' b' c' d':Int} (h:w.heap[g]? =some (jy a b c d)):(zf w g a' b' c' d').heap[g]? =some (jy a' b' c' d'):=by
 unfold jy at h
 exact au _ (au _ (au _ (au _ h)))
theorem zg (w:World) (g:Nat) (a b c d:Int) (B:Nat) (e:B<=g):Below B w (zf w g a b c d):=
 ((((Below.refl B w).setCell (p:=⟨g,0,none⟩) e _).setCell (p:=⟨g,1,none⟩) e _).setCell (p:=⟨g,2,none⟩) e _).setCell (p:=⟨g,3,none⟩) e _
theorem FW {w wr c:World} {b:Nat} {v:Value} {L:Nat} {a:A.St} (h:A.Run w wr b v L a) (d:Below wr.heap.size wr c):A.Run w c b v L a:=⟨h.acc.below d,h.bl.trans (d.mono h.bl.size)⟩
theorem wu (a b c d:Nat) (w:World):(Instr.index 249 (.agg #[.float .f64 a,.float .f64 b,.float .f64 c,.float .f64 d]) (.int .i64 0)).run Tryz.prog w=.ok (.float .f64 a) w/\(Instr.index 249 (.agg #[.float .f64 a,.float .f64 b,.float .f64 c,.float .f64 d]) (.int .i64 1)).run Tryz.prog w=.ok (.float .f64 b) w/\(Instr.index 249 (.agg #[.float .f64 a,.float .f64 b,.float .f64 c,.float .f64 d]) (.int .i64 2)).run Tryz.prog w=.ok (.float .f64 c) w/\(Instr.index 249 (.agg #[.float .f64 a,.float .f64 b,.float .f64 c,.float .f64 d]) (.int .i64 3)).run Tryz.prog w=.ok (.float .f64 d) w:=by
 refine⟨?_,?_,?_,?_⟩ <;>kernel_rfl
structure CubR (g:Nat) (ws:List Int) (ps:List Nat) (k:Nat) (q:Int) (c:Nat):Prop where
 f:floatOfInt .f64 q=fi q
 nx:wAt ws ps (k+1)=(wAt ws ps k).merge (A.bn (fi q) c)
 u:U64 (fi q:Nat)
 v:U64 (c:Nat)
theorem BV (kind x:Int) (H I cx J G cy n k D Z:Nat) (x0 x1 i e q1 t r1 r2 r s2 q t1 y n1:Int) (y0 y1 a b c d R:Nat) (w w0:World) (bs:w.alloc (.cells #[.int .i64 kind,.slice (some ⟨H,I,none⟩) n cx,.slice (some ⟨J,G,none⟩) n cy] 195)=w0)
  (HB:Hid (PieR w kind (.slice (some ⟨H,I,none⟩) n cx) (.slice (some ⟨J,G,none⟩) n cy) H I J G k x0 x1 y0 y1 w0)) (ct:k+1<n) (hn:n<=1000) (he:x1 - x=e) (hi:x - x0=i) (hD:e+i=(D:Int)) (_e0:0<=e) (_e1:e<=109572) (i0:0<=i) (i1:i<=109572) (dc:(D:Int)<=109572) (hC:CubW (D:Int) i e q1 t r1 r2 r s2 q t1 y n1 (Z:Int)) (ad:1<=Z) (na:NumW a) (nb:NumW b) (nc:NumW c) (nd:NumW d) (hR:aQ (wAt [t,r,q,y] [a,b,c,d] 4) Z=R)
  (HP:Hid (∀ wx,Below w.heap.size w wx->Calls Tryz.prog 221 #[.agg #[.int .i64 kind,.slice (some ⟨H,I,none⟩) n cx,.slice (some ⟨J,G,none⟩) n cy],.int .i64 (k:Int)] wx fun e w'=>e=.returned (.agg #[.float .f64 a,.float .f64 b,.float .f64 c,.float .f64 d])/\Below wx.heap.size wx w')) :
  Calls Tryz.prog 214 #[.agg #[.int .i64 kind,.slice (some ⟨H,I,none⟩) n cx,.slice (some ⟨J,G,none⟩) n cy],.int .i64 (k:Int),.int .i64 x] w fun e w'=>e=.returned (.float .f64 R)/\Below w.heap.size w w':=by
 obtain⟨cm,bz,bv,ca,cd,ci,cf,cc,bk,bi,ab,⟨p1,da⟩,⟨p2,cv⟩,⟨p3,cq⟩,⟨p4,cu⟩,⟨p5,db⟩,⟨p6,cs⟩,⟨p7,dd⟩,⟨p8,cr⟩,⟨p9,df⟩,⟨Q,C⟩,⟨W,E⟩⟩:=hC;have h4:=yj (K:=1074) rfl (a:=t) (b:=r) (c:=q) (d:=y) ⟨by omega,by omega⟩ ⟨by omega,by omega⟩ ⟨by omega,by omega⟩ ⟨by omega,by omega⟩ na.lt na.nb nb.lt nb.nb nc.lt nc.nb nd.lt nd.nb
 have hs:(wAt [t,r,q,y] [a,b,c,d] 4).s=0:=by rw [h4]
 have hO:A.gS (wAt [t,r,q,y] [a,b,c,d] 4).N Z=R:=by rw [<- hR];unfold aQ;rw [if_pos hs]
 have C0:Hid (CubR 0 [t,r,q,y] [a,b,c,d] 0 t a):=⟨bF _,rfl,aU (kw (by omega) (by omega)),aU na.lt⟩
 have C1:Hid (CubR 0 [t,r,q,y] [a,b,c,d] 1 r b):=⟨bF _,rfl,aU (kw (by omega) (by omega)),aU nb.lt⟩
 have C2:Hid (CubR 0 [t,r,q,y] [a,b,c,d] 2 q c):=⟨bF _,rfl,aU (kw (by omega) (by omega)),aU nc.lt⟩
 have C3:Hid (CubR 0 [t,r,q,y] [a,b,c,d] 3 y d):=⟨bF _,rfl,aU (kw (by omega) (by omega)),aU nd.lt⟩
 have hz:wAt [t,r,q,y] [a,b,c,d] 0=⟨0,0⟩:=rfl;obtain⟨F,hF⟩:∃ F,wAt [t,r,q,y] [a,b,c,d]=F:=⟨_,rfl⟩;have Y:=hideS (And.intro hs (And.intro hO (And.intro ad (show Z<9223372036854775808 by omega))))
 rw [hF] at Y
 have HZ:=hideS hz;rw [hF] at HZ
 have f1:IntKind.i64.wrap ((k:Int)+1)=(k:Int)+1:=by rw [IntKind.wrap_i64];omega
 have f2:IntKind.i64.wrap (x1 - x)=e:=by rw [IntKind.wrap_i64];omega
 have f3:IntKind.i64.wrap (x - x0)=i:=by rw [IntKind.wrap_i64];omega
 have g1:(0:Int)<=(k:Int)+1:=by omega
 have g2:(k:Int)+1<(n:Int):=by omega
 have g3:(0:Int)<=(k:Int):=by omega
 have g4:(k:Int)<(n:Int):=by omega
 have bh:Hid (∀ m,PieR w kind (.slice (some ⟨H,I,none⟩) n cx) (.slice (some ⟨J,G,none⟩) n cy) H I J G k x0 x1 y0 y1 (w0.drewN m)):=fun m=>HB.out.drewN m
 have u1:=HB.out.box.t1;have a0:=HB.out.a0;have a1:=HB.out.a1;have HQ:=hideS (And.intro bi (And.intro ab (And.intro Q (And.intro C (And.intro W E)))));clear he hi hs hO hR h4 na nb nc nd hz bi ab Q C W E ad
 go_enter Tryz.func214,Tryz.ntmps214
 go_wp2_with fail
 clear bs
 go_quiet (fail)
 clear u1 a0 a1 HB f1 f2 f3;generalize al:w0.drewN _=o at *
 have K0:Hid (PieR w kind (.slice (some ⟨H,I,none⟩) n cx) (.slice (some ⟨J,G,none⟩) n cy) H I J G k x0 x1 y0 y1 o):=by show PieR _ _ _ _ _ _ _ _ _ _ _ _ _ _;rw [<- al];exact bh.out _
 clear al bh;have HA:=hideS (show (o.alloc (jy 0 0 0 0)).heap[o.heap.size]? =some (jy 0 0 0 0) from heap_alloc_new o _)
 obtain⟨⟨c0,c1,c2,c3⟩,fz⟩:=nU HA.out;have z0:=fz 0;have z1:=fz 1;have z2:=fz 2;have z3:=fz 3;have HL:=hideS (((Below.refl o.heap.size o).alloc (Nat.le_refl _) (jy 0 0 0 0)).trans (zg _ o.heap.size t r q y o.heap.size (Nat.le_refl _)));have HY:=hideS (nU (tX (a':=t) (b':=r) (c':=q) (d':=y) HA.out)).1;have HG:Hid (o.heap.size<(zf (o.alloc (jy 0 0 0 0)) o.heap.size t r q y).heap.size):=(Array.getElem?_eq_some_iff.1 (tX (a':=t) (b':=r) (c':=q) (d':=y) HA.out)).1
 clear fz HA;obtain⟨w2,T⟩:∃ w2,o.alloc (jy 0 0 0 0)=w2:=⟨_,rfl⟩;rw [T] at c0 c1 c2 c3 z0 z1 z2 z3 HL HY HG
 unfold jy at T
 obtain⟨g,U⟩:∃ g,zf w2 o.heap.size t r q y=g:=⟨_,rfl⟩;rw [U] at HL HY HG
 unfold zf at U
 have ai:=hideS (A.vE g g.heap.size (Nat.le_refl _));have K3:=hideS (K0.out.step HL.out);have am:Hid (w.heap.size<=g.heap.size/\Below w.heap.size w g):=⟨K3.out.box.bl.size,K3.out.box.bl⟩;clear HL K0
 go_wp2_with fail
 clear T U c0 c1 c2 c3 z0 z1 z2 z3 cm bz bv ca cd ci cf cc bk;refine ai.out.mono ?_
 rintro er w4 ⟨rfl,ac,bc⟩;have R0:Hid (A.Run g w4 g.heap.size (.slice none 0 0) (72*0) (F 0)):=by show A.Run _ _ _ _ _ _;rw [HZ.out];exact⟨ac,bc⟩
 have K4:=hideS (K3.out.step bc);clear ac bc ai K3;have u0:=K4.out.box.t0;have u1:=K4.out.box.t1;have u2:=K4.out.box.t2
 go_wp2_with fail
 refine (HP.out _ K4.out.box.bl).mono ?_
 rintro er w5 ⟨rfl,ba⟩;have R1:=hideS (FW R0.out ba);clear ba u0 u1 u2 K4 R0 HP;have HF:=hideS hF;have HX:Hid (w.heap.size<=g.heap.size/\Below w.heap.size w g):=am;clear hF HZ am
 go_wp2_with fail
 go_loopw [12,13,61] (fun _ _ i wr=>∃ k:Nat,k<=4/\i=.int .i64 k/\Hid (∃ v,A.Run g wr g.heap.size v (72*k) (F k))) (fun _ _ i _=>4 - (intOf i).toNat)
 case atStart=>exact⟨0,Nat.zero_le _,rfl,⟨_,R1.out⟩⟩
 case round=>
  clear R1;obtain⟨k,hk,rfl,HR⟩:=hrel;obtain⟨v,h⟩:=HR.out
  by_cases cp:k<4
  ·rcases (show k=0\/k=1\/k=2\/k=3 by omega) with rfl | rfl | rfl | rfl
   ·have hc:wr.cell? ⟨o.heap.size,0,none⟩=some (.int .i64 t):=(h.bl.cell (p:=⟨o.heap.size,0,none⟩) HG.out).trans HY.out.1;have hf:=C0.out.f;have S:=(wu a b c d wr).1;have z:=hideS C0.out.nx;rw [HF.out] at z
    have j:=hideS (A.gT g.heap.size g.heap.size v (72*0) _ (fi t) a wr h.acc h.bl.size C0.out.u C0.out.v (by omega))
    have B:=hideS h;generalize fi t=X at *
    clear h HR
    go_wp2_with fail
    refine j.out.mono ?_
    rintro er L ⟨rfl,P,O,l⟩;have V:Hid (∃ v,A.Run g L g.heap.size v (72*1) (F 1)):=⟨O,by rw [z.out];exact ((B.out.drewN P).did l).mono (by omega)⟩
    clear l j B
    go_wp2_with fail
    go_roundw
    case rel=>exact⟨1,by omega,by simp,V⟩
    case measure=>simp [intOf]
   ·have hc:wr.cell? ⟨o.heap.size,1,none⟩=some (.int .i64 r):=(h.bl.cell (p:=⟨o.heap.size,1,none⟩) HG.out).trans HY.out.2.1;have hf:=C1.out.f;have S:=(wu a b c d wr).2.1;have z:=hideS C1.out.nx;rw [HF.out] at z
    have j:=hideS (A.gT g.heap.size g.heap.size v (72*1) _ (fi r) b wr h.acc h.bl.size C1.out.u C1.out.v (by omega))
    have B:=hideS h;generalize fi r=X at *
    clear h HR
    go_wp2_with fail
    refine j.out.mono ?_
    rintro er L ⟨rfl,P,O,l⟩;have V:Hid (∃ v,A.Run g L g.heap.size v (72*2) (F 2)):=⟨O,by rw [z.out];exact ((B.out.drewN P).did l).mono (by omega)⟩
    clear l j B
    go_wp2_with fail
    go_roundw
    case rel=>exact⟨2,by omega,by simp,V⟩
    case measure=>simp [intOf]
   ·have hc:wr.cell? ⟨o.heap.size,2,none⟩=some (.int .i64 q):=(h.bl.cell (p:=⟨o.heap.size,2,none⟩) HG.out).trans HY.out.2.2.1;have hf:=C2.out.f;have S:=(wu a b c d wr).2.2.1;have z:=hideS C2.out.nx;rw [HF.out] at z
    have j:=hideS (A.gT g.heap.size g.heap.size v (72*2) _ (fi q) c wr h.acc h.bl.size C2.out.u C2.out.v (by omega))
    have B:=hideS h;generalize fi q=X at *
    clear h HR
    go_wp2_with fail
    refine j.out.mono ?_
    rintro er L ⟨rfl,P,O,l⟩;have V:Hid (∃ v,A.Run g L g.heap.size v (72*3) (F 3)):=⟨O,by rw [z.out];exact ((B.out.drewN P).did l).mono (by omega)⟩
    clear l j B
    go_wp2_with fail
    go_roundw
    case rel=>exact⟨3,by omega,by simp,V⟩
    case measure=>simp [intOf]
   ·have hc:wr.cell? ⟨o.heap.size,3,none⟩=some (.int .i64 y):=(h.bl.cell (p:=⟨o.heap.size,3,none⟩) HG.out).trans HY.out.2.2.2;have hf:=C3.out.f;have S:=(wu a b c d wr).2.2.2;have z:=hideS C3.out.nx;rw [HF.out] at z
    have j:=hideS (A.gT g.heap.size g.heap.size v (72*3) _ (fi y) d wr h.acc h.bl.size C3.out.u C3.out.v (by omega))
    have B:=hideS h;generalize fi y=X at *
    clear h HR
    go_wp2_with fail
    refine j.out.mono ?_
    rintro er L ⟨rfl,P,O,l⟩;have V:Hid (∃ v,A.Run g L g.heap.size v (72*4) (F 4)):=⟨O,by rw [z.out];exact ((B.out.drewN P).did l).mono (by omega)⟩
    clear l j B
    go_wp2_with fail
    go_roundw
    case rel=>exact⟨4,by omega,by simp,V⟩
    case measure=>simp [intOf]
  ·obtain rfl:k=4:=by omega
   have M:=hideS (A.xX g.heap.size g.heap.size v (72*4) (F 4) Z wr h.acc h.bl.size (by omega) Y.out.2.2.1 Y.out.2.2.2 Y.out.1 (A.tW Y.out.2.2.1 (by have:=Y.out.2.2.2;omega)))
   rw [Y.out.2.1] at M
   have cl:=hideS (HX.out.2.trans (h.bl.mono HX.out.1));have bo:=hideS (Nat.le_trans HX.out.1 h.bl.size);obtain⟨m1,m2,Q,C,W,E⟩:=HQ.out;clear h HR
   go_wp2_with fail
   refine M.out.mono ?_
   rintro er L ⟨rfl,bb⟩;have br:=hideS (cl.out.trans (bb.mono bo.out));clear bb M
   go_wp2_with fail
   go_ret
   exact⟨rfl,br.out⟩
noncomputable def Km (kind:Int) (xs:List Int) (ys:List Nat) (k D:Nat) (i:Int):Nat:=if kind=1 then ys.getD k 0 else if kind=2 then linV ys k D i else if kind=3 then Bu (ptL xs ys k) D i else logV lnW exW ys k D i
theorem Nu {kind:Int} {xs:List Int} {ys:List Nat} {k:Nat} (h:OkT kind xs ys) (g:∀ i<ys.length,U64 (ys.getD i 0:Nat)) (j:k+1<xs.length):∃ a b c d,ptL xs ys k=[a,b,c,d]/\NumW a/\NumW b/\NumW c/\NumW d:=by
 rcases Int.le_total (ae (ys.getD k 0:Nat)) (ae (ys.getD (k+1) 0:Nat)) with f | f
 ·obtain⟨p,q,e,u⟩:=Kf h g j f;exact⟨_,_,_,_,e,u.n0,u.n1,u.n2,u.n3⟩
 ·obtain⟨p,q,e,u⟩:=yY h g j f;exact⟨_,_,_,_,e,u.n0,u.n1,u.n2,u.n3⟩
theorem zh {y:Nat} (h:NumW y) (c:ltB 0 (y:Nat)=true) (w:World):Calls Tryz.prog 223 #[.float .f64 y] w fun e a=>e=.returned (.float .f64 (lnW y))/\Below w.heap.size w a:=by
 obtain⟨j,f⟩:=iJ h.lt c;obtain⟨z,e,k⟩:=(jv h.lt).fin h.nb f j;refine ((jv h.lt).prog w).mono fun l a ⟨r,d,g,b⟩=>⟨?_,b⟩
 rw [d];have i:lnW y=z:=by unfold lnW;rw [if_pos h.lt,e,ao]
 rw [e] at g
 rw [i,cz g.1]
theorem Ko {y:Nat} (a:y<18446744073709551616) (hn:ah (y:Int)=false) (w:World):Calls Tryz.prog 54 #[.float .f64 y] w fun e b=>e=.returned (.float .f64 (exW y))/\Below w.heap.size w b:=by
 obtain⟨z,e,h⟩:=(ck a).num hn;refine ((ck a).prog w).mono fun i b ⟨r,d,g,c⟩=>⟨?_,c⟩
 rw [d];have f:exW y=z:=by unfold exW;rw [if_pos a,e,ao]
 rw [e] at g
 rw [f,cz g.1]
theorem FX (kind x:Int) (F C:Option Addr) (A z cx v t cy k D:Nat) (i:Int) (xs:List Int) (ys:List Nat) (w:World) (h:OkT kind xs ys) (j:TFl w F C A z v t xs ys) (s:Inside xs x k D i) :
  Calls Tryz.prog (iZ kind) #[.agg #[.int .i64 kind,.slice F xs.length cx,.slice C ys.length cy],.int .i64 (k:Int),.int .i64 x] w fun e Q=>e=.returned (.float .f64 (Km kind xs ys k D i))/\Below w.heap.size w Q:=by
 have m:=s.lt;have J:=h.len;have hh:=h.hi;have E:=eH h s;have i0:=s.lo;have i1:=s.hi';have e1:=s.hD;have e2:=s.hi;have G:=aL h j.u (show k<xs.length by omega)
 have I:=aL h j.u m;have P:=PT (kind:=kind) (cx:=cx) (cy:=cy) j J m;have o:=j.x.at_ (by omega)
 have q:=j.y.at_ (by omega)
 obtain⟨l,p⟩:∃ l:Nat,(D:Int) - i=(l:Int):=⟨((D:Int) - i).toNat,by omega⟩
 obtain⟨r,n⟩:∃ r:Nat,i=(r:Int):=⟨i.toNat,by omega⟩
 unfold iZ Km;have k1:=h.k1;have k4:=h.k4
 by_cases L:kind=1
 ·rw [if_pos L,if_pos L];exact Kl kind x F C A z cx v t cy k xs ys w (by omega) j (by omega)
 ·rw [if_neg L,if_neg L]
  by_cases M:kind=2
  ·rw [if_pos M,if_pos M];subst o q;rw [J] at P ⊢
   refine ze kind x A z cx v t cy xs.length k l r _ _ _ _ _ w _ rfl P m (by omega) (by omega) (by omega) (by omega) (by omega) (fun f=>nT l r D _ _ _ f (by omega) (by omega) (by omega) (by omega) G I ?_)
   unfold linV;rw [p,n]
  ·rw [if_neg M,if_neg M]
   by_cases H:kind=3
   ·rw [if_pos H,if_pos H];obtain⟨a,b,c,d,U,na,nb,nc,nd⟩:=Nu h j.u m;obtain⟨w1,w2,r1,Y,r3,W,s3,Z,t2,X,m2,g⟩:=vJ (D:=(D:Int)) (i:=i) (e:=(D:Int) - i) (by omega) (by omega) (by omega) (by omega) (by omega) E.2
    have N:m2=((D*D*D:Nat):Int):=by rw [<- g.hn2,<- g.hn1];simp
    rw [N] at g
    have V:Hid (∀ f,Below w.heap.size w f->Calls Tryz.prog 221 #[.agg #[.int .i64 kind,.slice F xs.length cx,.slice C ys.length cy],.int .i64 (k:Int)] f fun e Q=>e=.returned (.agg #[.float .f64 a,.float .f64 b,.float .f64 c,.float .f64 d])/\Below f.heap.size f Q):=fun f hb=>by
     have:=BT kind F C A z cx v t cy k xs ys f h (j.below hb) m;rw [U] at this
     exact this
    subst o q;rw [J] at P V ⊢
    refine BV kind x A z cx v t cy xs.length k D (D*D*D) _ _ i ((D:Int) - i) w1 w2 r1 Y r3 W s3 Z t2 X _ _ a b c d _ w _ rfl P m (by omega) (by omega) (by omega) (by omega) (by omega) (by omega) (by omega) (by omega) E.2 g (Nat.mul_pos (Nat.mul_pos E.1 E.1) E.1) na nb nc nd ?_ V
    unfold Bu;rw [U,<- g.hq2,<- g.hq1,<- g.hr3,<- g.hr2,<- g.hr1,<- g.hs3,<- g.hs2,<- g.hr1,<- g.ht2,<- g.ht1]
   ·rw [if_neg H,if_neg H];obtain rfl:kind=4:=by omega
    have S:=(ap (h.node k (by omega))).2.2.2.2 rfl
    have T:=(ap (h.node (k+1) m)).2.2.2.2 rfl;have R:=jZ G S;have O:=jZ I T;have hv:linV [lnW (ys.getD k 0),lnW (ys.getD (k+1) 0)] 0 D i=aQ (wAt [(D:Int) - i,i] [lnW (ys.getD k 0),lnW (ys.getD (k+1) 0)] 2) D:=rfl;have B:aQ (wAt [(D:Int) - i,i] [lnW (ys.getD k 0),lnW (ys.getD (k+1) 0)] 2) D<18446744073709551616/\ah (aQ (wAt [(D:Int) - i,i] [lnW (ys.getD k 0),lnW (ys.getD (k+1) 0)] 2) D:Nat)=false:=by
     rw [vN (K:=1074) rfl ⟨by omega,by omega⟩ ⟨by omega,by omega⟩ R.lt R.nb O.lt O.nb,kQ]
     exact⟨by have:=(cD (((D:Int) - i)*uI 1074 (lnW (ys.getD k 0))+i*uI 1074 (lnW (ys.getD (k+1) 0))) D).1.2;omega,(cD _ D).2.1⟩
    subst o q;rw [J] at P ⊢
    refine BU 4 x A z cx v t cy xs.length k l r _ _ _ _ (lnW (ys.getD k 0)) (lnW (ys.getD (k+1) 0)) _ (exW (aQ (wAt [(l:Int),(r:Int)] [lnW (ys.getD k 0),lnW (ys.getD (k+1) 0)] 2) D)) _ w _ rfl P m (by omega) (by omega) (by omega) (by omega) (by omega) (fun f=>zh G S f) (fun f=>zh I T f) (fun f=>nT l r D _ _ _ f (by omega) (by omega) (by omega) (by omega) R O rfl) ?_ ?_
    ·rw [<- p,<- n];exact fun f=>Ko B.1 B.2 f
    ·rw [<- p,<- n];exact fun f=>nj _ _ _ f (Kg _) G I
theorem FY (kind x E:Int) (F g c:Value) (w:World) (h:E≠0) (k:Hid (∀ b,Below w.heap.size w b->Calls Tryz.prog 178 #[.agg #[.int .i64 kind,g,c]] b fun e d=>e=.returned (.tuple #[F,.int .i64 E])/\Below b.heap.size b d)) :
  Calls Tryz.prog 160 #[.agg #[.int .i64 kind,g,c],.int .i64 x] w fun e d=>e=.returned (.tuple #[.float .f64 0,.int .i64 E])/\Below w.heap.size w d:=by
 have i:=hideS (cH w kind g c);have j:(E !=0)=true:=bne_iff_ne.2 h;clear h
 go_enter Tryz.func160,Tryz.ntmps160
 go_wp2_with fail
 refine (k.out _ i.out.bl).mono ?_
 rintro e l ⟨rfl,a⟩;have f:=hideS (i.out.step a);clear a
 go_wp2_with fail
 go_ret2
 exact⟨rfl,f.out.bl⟩
theorem FZ (kind x k E:Int) (F g h:Value) (w:World) (l:E≠0) (p:Hid (∀ a,Below w.heap.size w a->Calls Tryz.prog 178 #[.agg #[.int .i64 kind,g,h]] a fun e d=>e=.returned (.tuple #[F,.int .i64 0])/\Below a.heap.size a d))
  (o:Hid (∀ a,Below w.heap.size w a->Calls Tryz.prog 179 #[g,.int .i64 x] a fun e d=>e=.returned (.tuple #[.int .i64 k,.int .i64 E])/\Below a.heap.size a d)) :
  Calls Tryz.prog 160 #[.agg #[.int .i64 kind,g,h],.int .i64 x] w fun e d=>e=.returned (.tuple #[.float .f64 0,.int .i64 E])/\Below w.heap.size w d:=by
 have j:=hideS (cH w kind g h);have m:(E !=0)=true:=bne_iff_ne.2 l;clear l
 go_enter Tryz.func160,Tryz.ntmps160
 go_wp2_with fail
 refine (p.out _ j.out.bl).mono ?_
 rintro e r ⟨rfl,c⟩;have b:=hideS (j.out.step c);clear c;have n:=b.out.t1
 go_wp2_with fail
 refine (o.out _ b.out.bl).mono ?_
 rintro e q ⟨rfl,f⟩;have i:=hideS (b.out.step f);clear f n
 go_wp2_with fail
 go_ret2
 exact⟨rfl,i.out.bl⟩
theorem Kp (kind x g:Int) (F:Nat) (i h cx m j cy n k y V:Nat) (w:World) (hF:F=212\/F=213\/F=214\/F=215) (E:k<n) (_hn:n<=256) (u:g=x->V=y)
  (A:Hid (∀ a,Below w.heap.size w a->Calls Tryz.prog 178 #[.agg #[.int .i64 kind,.slice (some ⟨i,h,none⟩) n cx,.slice (some ⟨m,j,none⟩) n cy]] a fun e d=>e=.returned (.tuple #[.func (.func F) #[] #[],.int .i64 0])/\Below a.heap.size a d))
  (v:Hid (∀ a,Below w.heap.size w a->Calls Tryz.prog 179 #[.slice (some ⟨i,h,none⟩) n cx,.int .i64 x] a fun e d=>e=.returned (.tuple #[.int .i64 (k:Int),.int .i64 0])/\Below a.heap.size a d))
  (B:Hid (∀ a,Below w.heap.size w a->a.cell? ⟨i,h+k,none⟩=some (.int .i64 g)/\a.cell? ⟨m,j+k,none⟩=some (.float .f64 y)))
  (D:Hid (g≠x->∀ a,Below w.heap.size w a->Calls Tryz.prog F #[.agg #[.int .i64 kind,.slice (some ⟨i,h,none⟩) n cx,.slice (some ⟨m,j,none⟩) n cy],.int .i64 (k:Int),.int .i64 x] a fun e d=>e=.returned (.float .f64 V)/\Below a.heap.size a d)) :
  Calls Tryz.prog 160 #[.agg #[.int .i64 kind,.slice (some ⟨i,h,none⟩) n cx,.slice (some ⟨m,j,none⟩) n cy],.int .i64 x] w fun e d=>e=.returned (.tuple #[.float .f64 V,.int .i64 0])/\Below w.heap.size w d:=by
 have t:=hideS (cH w kind (.slice (some ⟨i,h,none⟩) n cx) (.slice (some ⟨m,j,none⟩) n cy));have C:=hideS u;clear u;rcases hF with rfl | rfl | rfl | rfl
 all_goals
  go_enter Tryz.func160,Tryz.ntmps160
  go_wp2_with fail
  refine (A.out _ t.out.bl).mono ?_
  rintro e I ⟨rfl,l⟩;have c:=hideS (t.out.step l);clear l;have s:=c.out.t1
  go_wp2_with fail
  refine (v.out _ c.out.bl).mono ?_
  rintro e G ⟨rfl,p⟩;have b:=hideS (c.out.step p);clear p s;have J:=b.out.t0;have s:=b.out.t1;have K:=b.out.t2;obtain⟨c0,c1⟩:=B.out _ b.out.bl
  by_cases f:g=x
  ·have z:(g==x)=true:=beq_iff_eq.2 f;obtain rfl:=C.out f;clear f
   go_wp2_with fail
   go_ret2
   exact⟨rfl,b.out.bl⟩
  ·have z:(g==x)=false:=beq_eq_false_iff_ne.2 f;have q:=hideS (D.out f);clear f
   go_wp2_with fail
   refine (q.out _ b.out.bl).mono ?_
   rintro e H ⟨rfl,o⟩;have r:=hideS (b.out.step o);clear o
   go_wp2_with fail
   go_ret2
   exact⟨rfl,r.out.bl⟩
inductive AtO (kind:Int) (xs:List Int) (ys:List Nat) (x:Int):Nat->Int->Prop
 | err (k E:Int) (h:FindO kind xs ys x k E) (hE:E≠0):AtO kind xs ys x 0 E
 | node (k:Nat) (ok:OkT kind xs ys) (h:FindO kind xs ys x (k:Int) 0) (hk:FindR xs x k) (he:xs.getD k 0=x):AtO kind xs ys x (ys.getD k 0) 0
 | piece (k D:Nat) (i:Int) (ok:OkT kind xs ys) (h:FindO kind xs ys x (k:Int) 0) (hk:FindR xs x k) (he:xs.getD k 0≠x) (hI:Inside xs x k D i):AtO kind xs ys x (Km kind xs ys k D i) 0
theorem PU (kind:Int) (xs:List Int) (ys:List Nat) (x:Int):∃ V E,AtO kind xs ys x V E:=by
 obtain⟨k,E,h⟩:=Hi kind xs ys x
 by_cases a:E=0
 ·subst a;generalize e:(0:Int)=z at h
  have f:=h;cases h with
  | bad E h a=>exact absurd e.symm a
  | out h n=>cases e
  | at_ g l d k c m=>
   by_cases b:xs.getD k 0=x
   ·exact⟨_,_,.node k g f c b⟩
   ·obtain⟨D,i,j⟩:=Fq d c b;exact⟨_,_,.piece k D i g f c b j⟩
 ·exact⟨_,_,.err k E h a⟩
theorem zj (kind:Int):iZ kind=212\/iZ kind=213\/iZ kind=214\/iZ kind=215:=by
 unfold iZ
 split
 ·exact .inl rfl
 ·split
  ·exact .inr (.inl rfl)
  ·split
   ·exact .inr (.inr (.inl rfl))
   ·exact .inr (.inr (.inr rfl))
theorem Ga (kind x E:Int) (V:Nat) (g f:Option Addr) (q p cx o n cy:Nat) (xs:List Int) (ys:List Nat) (w:World) (h:AtO kind xs ys x V E) (j:TFl w g f q p o n xs ys) :
  Calls Tryz.prog 160 #[.agg #[.int .i64 kind,.slice g xs.length cx,.slice f ys.length cy],.int .i64 x] w fun e m=>e=.returned (.tuple #[.float .f64 V,.int .i64 E])/\Below w.heap.size w m:=by
 have v:∀ E,TabR kind xs ys E->∀ a,Below w.heap.size w a->Calls Tryz.prog 178 #[.agg #[.int .i64 kind,.slice g xs.length cx,.slice f ys.length cy]] a fun e m=>e=.returned (.tuple #[chF kind E,.int .i64 E])/\Below a.heap.size a m:=fun E C a d=>BO kind E g f q p cx o n cy xs ys a C (j.below d)
 have s:∀ k V,OkT kind xs ys->FindO kind xs ys x ((k:Nat):Int) 0->k<xs.length->(xs.getD k 0=x->V=ys.getD k 0)->(xs.getD k 0≠x->∀ a,Below w.heap.size w a->Calls Tryz.prog (iZ kind) #[.agg #[.int .i64 kind,.slice g xs.length cx,.slice f ys.length cy],.int .i64 (k:Int),.int .i64 x] a fun e m=>e=.returned (.float .f64 V)/\Below a.heap.size a m)->Calls Tryz.prog 160 #[.agg #[.int .i64 kind,.slice g xs.length cx,.slice f ys.length cy],.int .i64 x] w fun e m=>e=.returned (.tuple #[.float .f64 V,.int .i64 0])/\Below w.heap.size w m:=fun k V b A l F z=>by
  have r:=v 0 (.ok b);have G:=fun a (d:Below w.heap.size w a)=>nS kind x k 0 g f q p cx o n xs ys a b A (j.below d)
  have J:=fun a (d:Below w.heap.size w a)=>And.intro ((j.below d).x.cell k l) ((j.below d).y.cell k (by rw [b.len];exact l))
  have I:=b.len;obtain rfl:=j.x.at_ (by omega)
  obtain rfl:=j.y.at_ (by omega)
  rw [I] at r z ⊢
  exact Kp kind x _ (iZ kind) q p cx o n cy xs.length k _ V w (zj kind) l b.hi F r G J z
 cases h with
 | err k E h t=>
  have H:=h;cases h with
  | bad E h t=>exact FY kind x E _ _ _ w t (v E h)
  | out b N=>exact FZ kind x 0 51 _ _ _ w (by decide) (v 0 (.ok b)) (fun a d=>nS kind x 0 51 g f q p cx o n xs ys a b H (j.below d))
  | at_ b K L k l M=>exact absurd rfl t
 | node k b h l u=>exact s k _ b h l.lt (fun _=>rfl) (fun c=>absurd u c)
 | piece k D i b h l u B=>exact s k _ b h l.lt (fun c=>absurd c u) (fun _ a d=>FX kind x g f q p cx o n cy k D i xs ys a b (j.below d) B)
theorem PV {kind x:Int} {V:Nat} {xs:List Int} {ys:List Nat} (h:AtO kind xs ys x V 0) (m:kind≠4):∃ k:Nat,OkT kind xs ys/\FindO kind xs ys x (k:Int) 0/\FindR xs x k/\AtR xs ys kind x k V:=by
 generalize g:(0:Int)=z at h
 cases h with
 | err k E h j=>exact absurd g.symm j
 | node k a h d b=>exact⟨k,a,h,d,.node kind x k b⟩
 | piece k D i a h d b f=>
  refine⟨k,a,h,d,?_⟩
  have l:=a.k1;have n:=a.k4;unfold Km
  by_cases c:kind=1
  ·rw [if_pos c];subst c;exact .flat x k b
  ·rw [if_neg c]
   by_cases e:kind=2
   ·rw [if_pos e];subst e;exact .lin x k D i f
   ·rw [if_neg e,if_pos (show kind=3 by omega)]
    obtain rfl:kind=3:=by omega
    exact .cub x k D i f
theorem zk {kind x:Int} {V:Nat} {xs:List Int} {ys:List Nat} (h:AtO kind xs ys x V 0) (l:∀ i<ys.length,U64 (ys.getD i 0:Nat)):∃ k:Nat,OkT kind xs ys/\FindO kind xs ys x (k:Int) 0/\k<xs.length/\V<18446744073709551616/\ah (V:Nat)=false/\(k+1<xs.length->min (ae (ys.getD k 0:Nat)) (ae (ys.getD (k+1) 0:Nat))<=ae (V:Nat)/\ae (V:Nat)<=max (ae (ys.getD k 0:Nat)) (ae (ys.getD (k+1) 0:Nat)))/\(¬ k+1<xs.length->ae (V:Nat)=ae (ys.getD k 0:Nat)):=by
 by_cases r:kind=4
 ·subst r;generalize s:(0:Int)=z at h
  cases h with
  | err k E h t=>exact absurd s.symm t
  | node k f h g u=>
   have q:=aL f l g.lt;exact⟨k,f,h,g.lt,q.lt,q.nn.nan,fun _=>⟨by omega,by omega⟩,fun _=>rfl⟩
  | piece k D i f h g u p=>
   obtain⟨a,b,c,d⟩:=Kh f l p;exact⟨k,f,h,g.lt,b,a,fun _=>⟨c,d⟩,fun c=>absurd p.lt c⟩
 ·obtain⟨k,f,n,g,m⟩:=PV h r
  by_cases j:k+1<xs.length
  ·rcases Int.le_total (ae (ys.getD k 0:Nat)) (ae (ys.getD (k+1) 0:Nat)) with o | o
   ·obtain⟨a,b,c,d⟩:=qU f l g.lt m (fun _=>o)
    have:=d j;exact⟨k,f,n,g.lt,by have:=a.2;omega,b,fun _=>⟨by omega,by omega⟩,fun c=>absurd j c⟩
   ·obtain⟨a,b,c,d⟩:=lY f l g.lt m (fun _=>o)
    have:=d j;exact⟨k,f,n,g.lt,by have:=a.2;omega,b,fun _=>⟨by omega,by omega⟩,fun c=>absurd j c⟩
  ·obtain⟨a,b,c,d⟩:=qU f l g.lt m (fun e=>absurd e j)
   obtain⟨v,y,A,w⟩:=lY f l g.lt m (fun e=>absurd e j)
   exact⟨k,f,n,g.lt,by have:=a.2;omega,b,fun e=>absurd e j,fun _=>by omega⟩
theorem Kq {a b:Nat} (f:a<18446744073709551616) (c:b<18446744073709551616) (d:ah (a:Nat)=false) (e:ah (b:Nat)=false):((FloatKind.f64.format.order a b==some .lt)||(FloatKind.f64.format.order a b==some .eq))=decide (ae (a:Nat)<=ae (b:Nat)):=by
 rw [jK (aU f) (aU c) d e,eU (aU f) (aU c) d e];generalize ae (a:Nat)=r;generalize ae (b:Nat)=s
 by_cases i:r<s<;>by_cases h:r=s<;>by_cases g:r<=s<;>simp [i,h,g]<;>omega
inductive FacO (base kind:Int) (ds:List Int) (fs:List Nat) (n:Int):Nat->Int->Prop
 | bad (E:Int) (h:CurR base kind ds fs E) (hE:E≠0):FacO base kind ds fs n 0 E
 | ok (h:OkV base kind ds fs) (V:Nat) (E:Int) (hA:AtO kind (ctX base ds) (ctY fs) n V E):FacO base kind ds fs n V E
theorem ww (base kind:Int) (a:List Int) (b:List Nat) (n:Int):∃ V E,FacO base kind a b n V E:=by
 obtain⟨E,h⟩:=oX base kind a b
 by_cases c:E=0
 ·subst c;obtain⟨V,E,d⟩:=PU kind (ctX base a) (ctY b) n;exact⟨V,E,.ok (ka h) V E d⟩
 ·exact⟨0,E,.bad E h c⟩
theorem oY (base:Int) (a:List Int):(ctX base a).length=a.length+1:=rfl
theorem wD (a:List Nat):(ctY a).length=a.length+1:=rfl
theorem kS (a:List Nat) (i:Nat):(ctY a).getD i 0=prvF a i:=by cases i<;>rfl
theorem Ks {a:List Nat} (b:∀ i<a.length,a.getD i 0<18446744073709551616):∀ i<(ctY a).length,(ctY a).getD i 0<18446744073709551616:=fun i hi=>by
 cases i with
 | zero=>exact (by decide:(4607182418800017408:Nat)<18446744073709551616)
 | succ i=>exact b i (by rw [wD] at hi;omega)
theorem OK {a:List Nat} (b:∀ i<a.length,a.getD i 0<18446744073709551616):∀ i<(ctY a).length,U64 ((ctY a).getD i 0:Nat):=fun i hi=>aU (Ks b i hi)
theorem Kt {base kind:Int} {a:List Int} {d:List Nat} (m:OkV base kind a d) {i:Nat} (hi:i<=a.length):AtO kind (ctX base a) (ctY d) (dA base a i) (prvF d i) 0:=by
 have b:=m.table;have l:=oY base a;have c:∀ j,(ctX base a).getD j 0=dA base a j:=BW base a;have le:∀ j k,j<=k->k<=a.length->dA base a j<=dA base a k:=fun j k e f=>by
  rcases Nat.lt_or_eq_of_le e with h | h
  ·have:=b.rise h (by omega)
   rw [c,c] at this;omega
  ·rw [h];exact Int.le_refl _
 have f:FindR (ctX base a) (dA base a i) i:=⟨by omega,by rw [c];exact Int.le_refl _,fun h=>by
  have:=b.step h;rw [c] at this;exact this⟩
 have:=AtO.node (kind:=kind) (ys:=ctY d) i b (.at_ b (by rw [c];exact le 0 i (Nat.zero_le _) hi) (by rw [c,l,Nat.add_sub_cancel];exact le i _ hi (Nat.le_refl _)) i f (fun j g=>⟨by omega,by rw [c];exact le (j+1) i g hi⟩)) f (c i)
 rw [kS] at this
 exact this
theorem jz {base kind:Int} {b:List Int} {a:List Nat} (d:OkV base kind b a):∀ i≤b.length,0<ae (prvF a i:Nat)/\ah (prvF a i:Nat)=false
 | 0,_=>by
  show 0<ae (4607182418800017408:Nat)/\ah (4607182418800017408:Nat)=false
  exact⟨by decide,by decide⟩
 | i+1,hi=>by
  have h:=(co (d.node i (by omega))).2.2.2
  show 0<ae (a.getD i 0:Nat)/\ah (a.getD i 0:Nat)=false
  unfold ltB at h
  simp only [Bool.and_eq_true,Bool.not_eq_true',decide_eq_true_eq] at h
  have c:ae 0=0:=by decide
  exact⟨by rw [<- c];exact h.2,h.1.2⟩
theorem Gb {base kind:Int} {d:List Int} {a:List Nat} (b:OkV base kind d a) (h:nV a=true):∀ i<d.length,ae (prvF a (i+1):Nat)<=ae (prvF a i:Nat):=fun i hi=>by
 have c:=Kr a;rw [h] at c
 cases c with
 | yes f=>
  have:=f i (by rw [b.len];exact hi)
  have p:=jz b i (by omega)
  have q:=jz b (i+1) (by omega)
  have e:ltB (prvF a i:Nat) (prvF a (i+1):Nat)=false:=this;rw [aA p.2 q.2,decide_eq_false_iff_not] at e
  omega
theorem qW {base kind:Int} {b:List Int} {a:List Nat} (c:OkV base kind b a) (h:nV a=true):∀ i≤b.length,ae (prvF a i:Nat)<=ae (4607182418800017408:Nat)
 | 0,_=>Int.le_refl _
 | i+1,hi=>Int.le_trans (Gb c h i (by omega)) (qW c h i (by omega))
theorem DT {base kind a:Int} {g:List Int} {b:List Nat} {W:Nat} (e:OkV base kind g b) (j:∀ i<b.length,b.getD i 0<18446744073709551616) (h:AtO kind (ctX base g) (ctY b) a W 0):W<18446744073709551616/\ah (W:Nat)=false/\0<ae (W:Nat)/\(nV b=true->ae (W:Nat)<=ae (4607182418800017408:Nat)):=by
 obtain⟨k,_,_,n,m,l,d,f⟩:=zk h (OK j);rw [oY] at n d f
 rw [kS,kS] at d
 rw [kS] at f
 have p:=jz e k (by omega)
 refine⟨m,l,?_,fun hF=>?_⟩
 ·by_cases c:k+1<g.length+1
  ·have:=(d c).1;have q:=jz e (k+1) (by omega)
   omega
  ·have:=f c;omega
 ·have o:=qW e hF k (by omega)
  by_cases c:k+1<g.length+1
  ·have:=(d c).2;have q:=qW e hF (k+1) (by omega)
   omega
  ·have:=f c;omega
end Go.Proofs.YtfdddijdjpijbaaGreat
