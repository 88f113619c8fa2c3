/-  -/
import Derived.Test.YtfdddijdjpijbaaGreatHbn
import Derived.Test.YtfdddijdjpijbaaGreatHau
import Derived.Laws.MakeOwn
import Derived.Sort.Row
import Derived.Test.YtfdddijdjpijbaaGreatHbm
import Derived.Test.YtfdddijdjpijbaaGreatHbk
import Derived.Test.YtfdddijdjpijbaaGreatHbj
import Derived.Test.YtfdddijdjpijbaaGreatHbl
import Derived.Test.YtfdddijdjpijbaaGreatHas
set_option maxHeartbeats 12800000
set_option maxRecDepth 20000
namespace Go.Proofs.YtfdddijdjpijbaaGreat
open Go.RowKit
def qF (a b c d:Nat):Obj:=.cells #[.float .f64 a,.float .f64 b,.float .f64 c,.float .f64 d] 249
structure PBox (w:World) (kind:Int) (vx vy:Value) (wr:World):Prop where
 t0:wr.cell? ⟨w.heap.size,0,none⟩=some (.int .i64 kind)
 t1:wr.cell? ⟨w.heap.size,1,none⟩=some vx
 t2:wr.cell? ⟨w.heap.size,2,none⟩=some vy
 arr:wr.heap[w.heap.size+1]? =some (qF 0 0 0 0)
 bl:Below w.heap.size w wr
 lt:w.heap.size+1<wr.heap.size
theorem MN (w:World) (kind:Int) (a b:Value):PBox w kind a b ((w.alloc (.cells #[.int .i64 kind,a,b] 195)).alloc (qF 0 0 0 0)):=by
 have d:(w.alloc (.cells #[.int .i64 kind,a,b] 195)).heap.size=w.heap.size+1:=by simp
 have c:∀ i,((w.alloc (.cells #[.int .i64 kind,a,b] 195)).alloc (qF 0 0 0 0)).cell? ⟨w.heap.size,i,none⟩=(w.alloc (.cells #[.int .i64 kind,a,b] 195)).cell? ⟨w.heap.size,i,none⟩:=fun i=>((Below.refl (w.heap.size+1) _).alloc (by omega) (qF 0 0 0 0)).cell (p:=⟨w.heap.size,i,none⟩) (by simp)
 refine⟨by rw [c];simp,by rw [c];simp,by rw [c];simp,by rw [<- d];exact heap_alloc_new _ _,((Below.refl _ _).alloc (Nat.le_refl _) _).alloc (by omega) _,by simp⟩
theorem PBox.step {w wr c:World} {kind:Int} {d e:Value} (h:PBox w kind d e wr) (a:Below wr.heap.size wr c):PBox w kind d e c:=by
 have b:w.heap.size<wr.heap.size:=by have:=h.lt;omega
 exact⟨(a.cell (p:=⟨w.heap.size,0,none⟩) b).trans h.t0,(a.cell (p:=⟨w.heap.size,1,none⟩) b).trans h.t1,(a.cell (p:=⟨w.heap.size,2,none⟩) b).trans h.t2,by rw [a.block _ h.lt];exact h.arr,h.bl.trans (a.mono h.bl.size),Nat.lt_of_lt_of_le h.lt a.size⟩
theorem PBox.drewN {w wr:World} {kind:Int} {a b:Value} (h:PBox w kind a b wr) (m:Nat):PBox w kind a b (wr.drewN m):=⟨h.t0,h.t1,h.t2,h.arr,⟨h.bl.os,h.bl.tape,h.bl.output,h.bl.size,h.bl.block⟩,h.lt⟩
theorem qG {w:World} {g a b c d:Nat} (h:w.heap[g]? =some (qF a b c d)):(w.cell? ⟨g,0,none⟩=some (.float .f64 a)/\w.cell? ⟨g,1,none⟩=some (.float .f64 b)/\w.cell? ⟨g,2,none⟩=some (.float .f64 c)/\w.cell? ⟨g,3,none⟩=some (.float .f64 d))/\∀ i,w.frozen? ⟨g,i,none⟩=false:=by
 unfold qF at h
 refine⟨⟨?_,?_,?_,?_⟩,fun i=>frozen_of_row w g i _ _ h⟩
 all_goals
  simp only [World.cell?,h,Option.isSome_none,Bool.false_eq_true,if_false]
  rfl
def set4 (w:World) (g a b c d:Nat):World:=(((w.setCell ⟨g,0,none⟩ (.float .f64 a)).setCell ⟨g,1,none⟩ (.float .f64 b)).setCell ⟨g,2,none⟩ (.float .f64 c)).setCell ⟨g,3,none⟩ (.float .f64 d)
theorem av {w:World} {g o:Nat} {cs:Array Value} {t:TypeId} (v:Value) (h:w.heap[g]? =some (.cells cs t (0,0))):(w.setCell ⟨g,o,none⟩ v).heap[g]? =some (.cells (cs.setIfInBounds o v) t (0,0)):=by
 rw [Go.Sort.setCell_eq];simp [Go.Sort.mapBlock,Array.getElem?_modify,h,Go.Sort.onCells]
theorem Jz {w:World} {g a b c d a' b' c' d':Nat} (h:w.heap[g]? =some (qF a b c d)):(set4 w g a' b' c' d').heap[g]? =some (qF a' b' c' d'):=by
 unfold qF at h
 exact av _ (av _ (av _ (av _ h)))
theorem Bs (w:World) (g a b c d B:Nat) (e:B<=g):Below B w (set4 w g a b c d):=
 ((((Below.refl B w).setCell (p:=⟨g,0,none⟩) e _).setCell (p:=⟨g,1,none⟩) e _).setCell (p:=⟨g,2,none⟩) e _).setCell (p:=⟨g,3,none⟩) e _
theorem cg (a:Addr) (x:Nat) (m:Mode) (w:World):(store a (.float .f64 x) m).run Tryz.prog w=stored Tryz.prog w a (.float .f64 x) m:=run_store Tryz.prog w a _ m rfl
theorem yx (kind:Int) (f j cx l d cy n k:Nat) (s r:Int) (y0 y1 h V F G I a0 p T H N q:Nat) (w o:World) (x:(w.alloc (.cells #[.int .i64 kind,.slice (some ⟨f,j,none⟩) n cx,.slice (some ⟨l,d,none⟩) n cy] 195)).alloc (qF 0 0 0 0)=o)
  (m:Hid (PBox w kind (.slice (some ⟨f,j,none⟩) n cx) (.slice (some ⟨l,d,none⟩) n cy) o)) (c0:o.cell? ⟨f,j+k,none⟩=some (.int .i64 s)) (c1:o.cell? ⟨f,j+(k+1),none⟩=some (.int .i64 r)) (c2:o.cell? ⟨l,d+k,none⟩=some (.float .f64 y0)) (c3:o.cell? ⟨l,d+(k+1),none⟩=some (.float .f64 y1))
  (X:k+1<n) (hn:n<=1000) (h0:0<=s) (h1:s<=109572) (h2:0<=r) (h3:r<=109572) (qf:floatOfInt .f64 (r - s)=h)
  (M:floatBits .mul .f64 V h=some G) (K:floatBits .quo .f64 G 4613937818241073152=some I) (L:floatBits .add .f64 y0 I=some a0) (U:floatBits .mul .f64 F h=some T) (R:floatBits .quo .f64 T 4613937818241073152=some H) (S:floatBits .sub .f64 y1 H=some N)
  (C:Hid (∀ a,Below w.heap.size w a->Calls Tryz.prog 227 #[.agg #[.int .i64 kind,.slice (some ⟨f,j,none⟩) n cx,.slice (some ⟨l,d,none⟩) n cy],.int .i64 (k:Int)] a fun e c=>e=.returned (.float .f64 V)/\Below a.heap.size a c))
  (z:Hid (∀ a,Below w.heap.size w a->Calls Tryz.prog 227 #[.agg #[.int .i64 kind,.slice (some ⟨f,j,none⟩) n cx,.slice (some ⟨l,d,none⟩) n cy],.int .i64 ((k:Int)+1)] a fun e c=>e=.returned (.float .f64 F)/\Below a.heap.size a c))
  (E:Hid (∀ a,Calls Tryz.prog 224 #[.float .f64 a0,.float .f64 y0,.float .f64 y1] a fun e c=>e=.returned (.float .f64 p)/\c=a))
  (D:Hid (∀ a,Calls Tryz.prog 224 #[.float .f64 N,.float .f64 p,.float .f64 y1] a fun e c=>e=.returned (.float .f64 q)/\c=a)) :
  Calls Tryz.prog 221 #[.agg #[.int .i64 kind,.slice (some ⟨f,j,none⟩) n cx,.slice (some ⟨l,d,none⟩) n cy],.int .i64 (k:Int)] w fun e c=>e=.returned (.agg #[.float .f64 y0,.float .f64 p,.float .f64 q,.float .f64 y1])/\Below w.heap.size w c:=by
 have f1:IntKind.i64.wrap ((k:Int)+1)=(k:Int)+1:=by rw [IntKind.wrap_i64];omega
 have f2:IntKind.i64.wrap (r - s)=r - s:=by rw [IntKind.wrap_i64];omega
 have g1:(0:Int)<=(k:Int)+1:=by omega
 have g2:(k:Int)+1<(n:Int):=by omega
 have g3:(0:Int)<=(k:Int):=by omega
 have g4:(k:Int)<(n:Int):=by omega
 have r1:=fun w=>run_float_arith (P:=Tryz.prog) w .mul 27 .f64 _ _ _ M
 have r2:=fun w=>run_float_arith (P:=Tryz.prog) w .quo 27 .f64 _ _ _ K
 have r3:=fun w=>run_float_arith (P:=Tryz.prog) w .add 27 .f64 _ _ _ L
 have r4:=fun w=>run_float_arith (P:=Tryz.prog) w .mul 27 .f64 _ _ _ U
 have r5:=fun w=>run_float_arith (P:=Tryz.prog) w .quo 27 .f64 _ _ _ R
 have r6:=fun w=>run_float_arith (P:=Tryz.prog) w .sub 27 .f64 _ _ _ S
 have A:=m.out.t0;have B:=m.out.t1;have y:=m.out.t2;clear M K L U R S;unfold qF at x
 go_enter Tryz.func221,Tryz.ntmps221
 go_wp2_with fail
 clear x
 go_quiet (fail)
 go_wp2_with fail
 go_quiet (fail)
 go_wp2_with fail
 refine (C.out _ (m.out.drewN _).bl).mono ?_
 rintro e w1 ⟨rfl,t⟩;have b:=hideS ((m.out.drewN _).step t);clear t A B y c0 c1 c2 c3 m;have A:=b.out.t0;have B:=b.out.t1;have y:=b.out.t2
 go_wp2_with fail
 refine (E.out _).mono ?_
 rintro e c ⟨rfl,rfl⟩
 go_wp2_with fail
 refine (z.out _ b.out.bl).mono ?_
 rintro e w2 ⟨rfl,u⟩;have g:=hideS (b.out.step u);clear u A B y b
 go_wp2_with fail
 refine (D.out _).mono ?_
 rintro e c ⟨rfl,rfl⟩;obtain⟨⟨c0,c1,c2,c3⟩,fz⟩:=qG g.out.arr;have ab:=cg;have z0:=fz 0;have z1:=fz 1;have z2:=fz 2;have z3:=fz 3;clear fz
 go_wp2_with fail
 obtain⟨J,i⟩:∃ J,set4 c (w.heap.size+1) y0 p q y1=J:=⟨_,rfl⟩;have Q:=hideS (qG (Jz (a':=y0) (b':=p) (c':=q) (d':=y1) g.out.arr)).1;have O:=hideS (g.out.bl.trans (Bs c (w.heap.size+1) y0 p q y1 w.heap.size (by omega)))
 rw [i] at Q O
 unfold set4 at i
 rw [i];obtain⟨Z,W,v2,Y⟩:=Q.out;refine bodyPost_ret (v:=.agg #[.float .f64 y0,.float .f64 p,.float .f64 q,.float .f64 y1]) (by simp [results,Tryz.results221,go_sem,Z,W,v2,Y]) rfl ⟨rfl,O.out⟩
theorem fi3:fi 3=4613937818241073152:=by decide+kernel
theorem Bt (kind:Int) (r o:Option Addr) (t v cx C E cy k:Nat) (xs:List Int) (ys:List Nat) (w:World) (h:OkT kind xs ys) (f:TFl w r o t v C E xs ys) (l:k+1<xs.length) :
  Calls Tryz.prog 221 #[.agg #[.int .i64 kind,.slice r xs.length cx,.slice o ys.length cy],.int .i64 (k:Int)] w fun e D=>e=.returned (.agg #[.float .f64 ((ptL xs ys k).getD 0 0),.float .f64 ((ptL xs ys k).getD 1 0),.float .f64 ((ptL xs ys k).getD 2 0),.float .f64 ((ptL xs ys k).getD 3 0)])/\Below w.heap.size w D:=by
 have U:=h.len;have z:=MN w kind (.slice r xs.length cx) (.slice o ys.length cy);have d:=f.below z.bl;have A:Hid (∀ c,Below w.heap.size w c->∀ j,j<xs.length->Calls Tryz.prog 227 #[.agg #[.int .i64 kind,.slice r xs.length cx,.slice o ys.length cy],.int .i64 (j:Int)] c fun e D=>e=.returned (.float .f64 ((bG xs ys xs.length).getD j 0))/\Below c.heap.size c D):=fun c q j S=>Fi kind r o t v cx C E cy j xs ys c h (f.below q) S
 obtain rfl:=f.x.at_ (by omega)
 obtain rfl:=f.y.at_ (by omega)
 have V:=h.step l;have I:=aq (h.node k (by omega))
 have G:=aq (h.node (k+1) l);obtain⟨M,p⟩:=iD (m:=xs.getD (k+1) 0 - xs.getD k 0) (by omega) (by omega)
 obtain⟨K,n⟩:=iD (m:=3) (by decide) (by decide)
 have a:=aN h f.u (i:=k) (by omega)
 have b:=aN h f.u l;have T:=gK h f.u k;have R:=gK h f.u (k+1);have J:=jO T M p;have P:=iB J K n;have s:=oF a P;have F:=jO R M p;have O:=iB F K n;have N:=vj b O;have Q:NumW (ptP (fi (xs.getD (k+1) 0 - xs.getD k 0)) ((bG xs ys xs.length).getD k 0) (ys.getD k 0) (ys.getD (k+1) 0)):=by
  rcases Int.le_total (ae (ys.getD k 0:Nat)) (ae (ys.getD (k+1) 0:Nat)) with B | B
  ·exact (mM s a b B).1
  ·exact (mN s a b B).1
 have L:=gL P;have H:=gL O;rw [fi3] at L H
 have g:∀ c,Below w.heap.size w c->_:=fun c q=>A.out c q (k+1) l
 rw [Int.natCast_add,Int.natCast_one] at g
 have c0:=d.x.cell k (by omega)
 have c1:=d.x.cell (k+1) l;have c2:=d.y.cell k (by omega)
 have c3:=d.y.cell (k+1) (by omega)
 rw [U] at z A g c0 c1 c2 c3 ⊢
 exact yx kind t v cx C E cy xs.length k _ _ _ _ _ _ _ _ _ _ _ _ _ _ _ w _ rfl z c0 c1 c2 c3 l (by have:=h.hi;omega) I.1 I.2.1 G.1 G.2.1 (bE _)
  (yt J) L (fi3▸yu s) (yt F) H (fi3▸yr N) (fun c q=>A.out c q k (by omega)) g (fun c=>fi3▸mU _ _ _ c s.lt a b) (fun c=>fi3▸mU _ _ _ c N.lt Q b)
def RowF (w:World) (g N:Nat) (b:List Nat):Prop:=∃ a:Array Value,w.heap[g]? =some (.cells a 27 (0,0))/\a.size=N/\a.toList.take b.length=b.map fV
theorem RowF.stay {w a:World} {g N B:Nat} {b:List Nat} (h:RowF w g N b) (i:Below B w a) (f:g<B):RowF a g N b:=by
 obtain⟨c,e,d⟩:=h;exact⟨c,by rw [i.block g f];exact e,d⟩
theorem RowF.lt {w:World} {g N:Nat} {b:List Nat} (h:RowF w g N b):g<w.heap.size:=by
 obtain⟨c,a,_⟩:=h;exact (Array.getElem?_eq_some_iff.1 a).1
theorem RowF.cell {w:World} {g N:Nat} {c:List Nat} (h:RowF w g N c) {k:Nat} (e:k<N):∃ u,w.cell? ⟨g,k,none⟩=some u:=by
 obtain⟨a,b,d,_⟩:=h;refine⟨a[k]'(by omega),?_⟩
 simp only [World.cell?,b,Option.isSome_none,Bool.false_eq_true,if_false];exact Array.getElem?_eq_getElem (by omega)
theorem RowF.frozen {w:World} {g N:Nat} {c:List Nat} (h:RowF w g N c) (k:Nat):w.frozen? ⟨g,k,none⟩=false:=by
 obtain⟨a,b,_⟩:=h;exact frozen_of_row w g k a _ b
theorem RowF.own {w:World} {g N base:Nat} {a:List Nat} (h:RowF w g N a) (b:a.length=N) (f:base<=g) (i:N<=100000):w.ownsRow base 27 1 (.slice (some ⟨g,0,none⟩) N N) N (a.map fV):=by
 obtain⟨c,d,j,e⟩:=h;refine⟨by rw [List.length_map,b,Nat.mul_one],.inr ⟨g,N,c,rfl,f,d,Nat.le_refl _,by unfold maxLen;omega,by omega,?_⟩⟩
 rw [Nat.mul_one,<- b];exact e
theorem JA {w:World} {g N k:Nat} {a:List Nat} (d:Nat) (h:RowF w g N (a.take k)) (q:k<N) (f:k<a.length) (e:a.getD k 0=d):RowF (w.setCell ⟨g,k,none⟩ (.float .f64 d)) g N (a.take (k+1)):=by
 obtain⟨r,o,m,i⟩:=h;refine⟨_,av _ o,by simp [m],?_⟩
 have p:(a.take k).length=k:=by simp;omega
 have n:(a.take (k+1)).length=k+1:=by simp;omega
 rw [p] at i
 rw [n];apply List.ext_getElem?;intro j
 by_cases c:j<k+1
 ·rw [List.getElem?_take_of_lt c]
  simp only [Array.getElem?_toList,Array.getElem?_setIfInBounds]
  by_cases b:k=j
  ·subst b;rw [if_pos rfl,if_pos (by omega),List.getElem?_map,List.getElem?_take_of_lt c,List.getElem?_eq_getElem f]
   rw [List.getD_eq_getElem?_getD,List.getElem?_eq_getElem f] at e
   simp only [Option.getD_some] at e
   rw [Option.map_some,e];rfl
  ·rw [if_neg b];have:=congrArg (fun l=>l[j]?) i
   rw [List.getElem?_take_of_lt (by omega),Array.getElem?_toList,List.getElem?_map,List.getElem?_take_of_lt (by omega)] at this
   rw [this,List.getElem?_map,List.getElem?_take_of_lt c]
 ·rw [List.getElem?_eq_none (by simp;omega),List.getElem?_eq_none (by simp;omega)]
theorem Fk (w:World) (N:Nat) (z:Array Value):RowF (w.alloc (.cells (madeCells z N) 27)) w.heap.size N []:=
 ⟨_,heap_alloc_new w _,size_madeCells _ _,by simp⟩
theorem nK (l r D a b R:Nat) (w:World) (hl:l<=109572) (V:r<=109572) (hD:l+r=D) (h:0<D) (q:NumW a) (t:NumW b) (G:aR (wAt [(l:Int),(r:Int)] [a,b] 2) D=R) :
  Calls Tryz.prog 220 #[.int .i64 (l:Int),.int .i64 (r:Int),.float .f64 a,.float .f64 b] w fun e W=>e=.returned (.float .f64 R)/\Below w.heap.size w W:=by
 have z:=vh (K:=1074) rfl (a:=(l:Int)) (b:=(r:Int)) ⟨by omega,by omega⟩ ⟨by omega,by omega⟩ q.lt q.nb t.lt t.nb
 have y:(wAt [(l:Int),(r:Int)] [a,b] 2).s=0:=by rw [z]
 have E:A.gG (wAt [(l:Int),(r:Int)] [a,b] 2).N D=R:=by rw [<- G];unfold aR;rw [if_pos y]
 have L:wAt [(l:Int),(r:Int)] [a,b] 2=((⟨0,0⟩:A.St).merge (A.bn (fi (l:Int)) a)).merge (A.bn (fi (r:Int)) b):=rfl;have H:=aU (kn (n:=(l:Int)) (by omega) (by omega))
 have F:=aU (kn (n:=(r:Int)) (by omega) (by omega))
 have B:=aU q.lt;have C:=aU t.lt;have f1:=bE (l:Int);have f2:=bE (r:Int);have f3:IntKind.i64.wrap ((l:Int)+(r:Int))=(D:Int):=by rw [IntKind.wrap_i64];omega
 clear z G;generalize fi (l:Int)=X at *
 generalize fi (r:Int)=Y at *
 generalize wAt [(l:Int),(r:Int)] [a,b] 2=T at *
 have f:=hideS (A.uT w w.heap.size (Nat.le_refl _));have x:=hideS (And.intro L (And.intro y E));have o:=hideS (And.intro H (And.intro F (And.intro B C)));have v:=hideS (And.intro h (show D<9223372036854775808 by omega))
 clear L y E H F B C q t hD h hl V
 go_enter Tryz.func220,Tryz.ntmps220
 go_wp2_with fail
 refine f.out.mono ?_
 rintro e J ⟨rfl,I,M⟩;have p:Hid (A.Run w J w.heap.size (.slice none 0 0) 0 ⟨0,0⟩):=⟨I,M⟩;clear I M f;have m:=hideS (A.gH w.heap.size w.heap.size _ 0 _ X a J p.out.acc p.out.bl.size o.out.1 o.out.2.2.1 (by omega))
 go_wp2_with fail
 refine m.out.mono ?_
 rintro e O ⟨rfl,Z,P,k⟩;have u:=hideS ((p.out.drewN Z).did k);clear k p m;have g:=hideS (A.gH w.heap.size w.heap.size P _ _ Y b O u.out.acc u.out.bl.size o.out.2.1 o.out.2.2.2 (by omega))
 go_wp2_with fail
 refine g.out.mono ?_
 rintro e S ⟨rfl,U,Q,i⟩;have d:=hideS ((u.out.drewN U).did i);clear i u g;rw [<- x.out.1] at d
 have c:=hideS (A.xC w.heap.size w.heap.size Q _ T D S d.out.acc d.out.bl.size (by omega) v.out.1 v.out.2 x.out.2.1 (A.tE v.out.1 (by have:=v.out.2;omega)))
 rw [x.out.2.2] at c
 go_wp2_with fail
 refine c.out.mono ?_
 rintro e w3 ⟨rfl,j⟩;have HL:=hideS (d.out.bl.trans (j.mono d.out.bl.size));clear j d c
 go_wp2_with fail
 go_ret
 exact⟨rfl,HL.out⟩
theorem JH (kind x:Int) (a g:Option Addr) (j o cx c d cy k:Nat) (xs:List Int) (ys:List Nat) (w:World) (hn:ys.length<=256) (h:TFl w a g j o c d xs ys) (l:k<ys.length) :
  Calls Tryz.prog 212 #[.agg #[.int .i64 kind,.slice a xs.length cx,.slice g ys.length cy],.int .i64 (k:Int),.int .i64 x] w fun e p=>e=.returned (.float .f64 (ys.getD k 0))/\Below w.heap.size w p:=by
 have b:=hideS (cF w kind (.slice a xs.length cx) (.slice g ys.length cy));obtain rfl:=h.y.at_ (by omega)
 have c0:(w.alloc (.cells #[.int .i64 kind,.slice a xs.length cx,.slice (some ⟨c,d,none⟩) ys.length cy] 195)).cell? ⟨c,d+k,none⟩=some (.float .f64 (ys.getD k 0)):=(h.below b.out.bl).y.cell k l;have q:=b.out.t2;clear h;generalize ys.getD k 0=y at *
 generalize ys.length=n at *
 generalize xs.length=m at *
 obtain⟨i,f⟩:∃ i,w.alloc (.cells #[.int .i64 kind,.slice a m cx,.slice (some ⟨c,d,none⟩) n cy] 195)=i:=⟨_,rfl⟩;rw [f] at c0 q b
 go_enter Tryz.func212,Tryz.ntmps212
 go_wp2_with fail
 go_ret
 exact⟨rfl,b.out.bl⟩
structure PieR (w:World) (kind:Int) (vx vy:Value) (bx ox b2 oy k:Nat) (x0 x1:Int) (y0 y1:Nat) (wr:World):Prop where
 box:TBox w kind vx vy wr
 a0:wr.cell? ⟨bx,ox+k,none⟩=some (.int .i64 x0)
 a1:wr.cell? ⟨bx,ox+(k+1),none⟩=some (.int .i64 x1)
 b0:wr.cell? ⟨b2,oy+k,none⟩=some (.float .f64 y0)
 b1:wr.cell? ⟨b2,oy+(k+1),none⟩=some (.float .f64 y1)
 lx:bx<wr.heap.size
 ly:b2<wr.heap.size
theorem PieR.step {w wr f:World} {kind:Int} {g j:Value} {b c e d k:Nat} {i l:Int} {y0 y1:Nat} (h:PieR w kind g j b c e d k i l y0 y1 wr) (a:Below wr.heap.size wr f):PieR w kind g j b c e d k i l y0 y1 f:=
 ⟨h.box.step a,(a.cell (p:=⟨b,c+k,none⟩) h.lx).trans h.a0,(a.cell (p:=⟨b,c+(k+1),none⟩) h.lx).trans h.a1,(a.cell (p:=⟨e,d+k,none⟩) h.ly).trans h.b0,(a.cell (p:=⟨e,d+(k+1),none⟩) h.ly).trans h.b1,Nat.lt_of_lt_of_le h.lx a.size,Nat.lt_of_lt_of_le h.ly a.size⟩
theorem PieR.drewN {w wr:World} {kind:Int} {b d:Value} {a e i g k:Nat} {c f:Int} {y0 y1:Nat} (h:PieR w kind b d a e i g k c f y0 y1 wr) (m:Nat):PieR w kind b d a e i g k c f y0 y1 (wr.drewN m):=⟨h.box.drewN m,h.a0,h.a1,h.b0,h.b1,h.lx,h.ly⟩
theorem PieR.drew {w wr:World} {kind:Int} {b d:Value} {a e i g k:Nat} {c f:Int} {y0 y1:Nat} (h:PieR w kind b d a e i g k c f y0 y1 wr):PieR w kind b d a e i g k c f y0 y1 wr.drew:=h.drewN 1
theorem Pp {w:World} {kind:Int} {c b:Option Addr} {d f cx h g cy k:Nat} {xs:List Int} {ys:List Nat} (i:TFl w c b d f h g xs ys) (l:ys.length=xs.length) (j:k+1<xs.length) :
  PieR w kind (.slice c xs.length cx) (.slice b ys.length cy) d f h g k (xs.getD k 0) (xs.getD (k+1) 0) (ys.getD k 0) (ys.getD (k+1) 0) (w.alloc (.cells #[.int .i64 kind,.slice c xs.length cx,.slice b ys.length cy] 195)):=by
 have e:=cF w kind (.slice c xs.length cx) (.slice b ys.length cy);have a:=i.below e.bl;exact⟨e,a.x.cell k (by omega),a.x.cell (k+1) j,a.y.cell k (by omega),a.y.cell (k+1) (by omega),a.x.lt (by omega),a.y.lt (by omega)⟩
theorem yG (kind x:Int) (c d cx f g cy n k l r:Nat) (o j:Int) (y0 y1 R:Nat) (w p:World) (h:w.alloc (.cells #[.int .i64 kind,.slice (some ⟨c,d,none⟩) n cx,.slice (some ⟨f,g,none⟩) n cy] 195)=p)
  (a:Hid (PieR w kind (.slice (some ⟨c,d,none⟩) n cx) (.slice (some ⟨f,g,none⟩) n cy) c d f g k o j y0 y1 p)) (q:k+1<n) (hn:n<=1000) (u:j - x=(l:Int)) (s:x - o=(r:Int)) (bl:l<=109572) (A:r<=109572)
  (v:Hid (∀ i,Calls Tryz.prog 220 #[.int .i64 (l:Int),.int .i64 (r:Int),.float .f64 y0,.float .f64 y1] i fun e m=>e=.returned (.float .f64 R)/\Below i.heap.size i m)) :
  Calls Tryz.prog 213 #[.agg #[.int .i64 kind,.slice (some ⟨c,d,none⟩) n cx,.slice (some ⟨f,g,none⟩) n cy],.int .i64 (k:Int),.int .i64 x] w fun e m=>e=.returned (.float .f64 R)/\Below w.heap.size w m:=by
 have B:IntKind.i64.wrap ((k:Int)+1)=(k:Int)+1:=by rw [IntKind.wrap_i64];omega
 have L:IntKind.i64.wrap (j - x)=(l:Int):=by rw [IntKind.wrap_i64];omega
 have z:IntKind.i64.wrap (x - o)=(r:Int):=by rw [IntKind.wrap_i64];omega
 have I:(0:Int)<=(k:Int)+1:=by omega
 have E:(k:Int)+1<(n:Int):=by omega
 have D:(0:Int)<=(k:Int):=by omega
 have F:(k:Int)<(n:Int):=by omega
 have y:=a.out.box.t1;have K:=a.out.box.t2;have G:=a.out.a0;have J:=a.out.a1;have M:=a.out.b0;have C:=a.out.b1;clear u s
 go_enter Tryz.func213,Tryz.ntmps213
 go_wp2_with fail
 clear h
 go_quiet (fail)
 go_wp2_with fail
 go_region_with ((go_at_call 220;refine (v.out _).mono ?_;rintro e H ⟨rfl,b⟩;have t:=hideS ((a.out.drewN _).box.step b).bl;clear b))
 all_goals
  go_wp2_with fail
  go_ret
  exact⟨rfl,t.out⟩
theorem PieR.all {w wr:World} {kind:Int} {e c:Value} {d g b a k:Nat} {f i:Int} {y0 y1:Nat} (h:PieR w kind e c d g b a k f i y0 y1 wr):wr.cell? ⟨w.heap.size,2,none⟩=some c/\wr.cell? ⟨b,a+k,none⟩=some (.float .f64 y0)/\wr.cell? ⟨b,a+(k+1),none⟩=some (.float .f64 y1):=⟨h.box.t2,h.b0,h.b1⟩
theorem Bu (kind x:Int) (f g cx b d cy n k l r:Nat) (t q:Int) (y0 y1 N K R E H:Nat) (w A:World) (C:w.alloc (.cells #[.int .i64 kind,.slice (some ⟨f,g,none⟩) n cx,.slice (some ⟨b,d,none⟩) n cy] 195)=A)
  (o:Hid (PieR w kind (.slice (some ⟨f,g,none⟩) n cx) (.slice (some ⟨b,d,none⟩) n cy) f g b d k t q y0 y1 A)) (S:k+1<n) (hn:n<=1000) (X:q - x=(l:Int)) (V:x - t=(r:Int)) (bl:l<=109572) (br:r<=109572)
  (F:Hid (∀ a,Calls Tryz.prog 223 #[.float .f64 y0] a fun e c=>e=.returned (.float .f64 N)/\Below a.heap.size a c))
  (B:Hid (∀ a,Calls Tryz.prog 223 #[.float .f64 y1] a fun e c=>e=.returned (.float .f64 K)/\Below a.heap.size a c))
  (Y:Hid (∀ a,Calls Tryz.prog 220 #[.int .i64 (l:Int),.int .i64 (r:Int),.float .f64 N,.float .f64 K] a fun e c=>e=.returned (.float .f64 R)/\Below a.heap.size a c))
  (T:Hid (∀ a,Calls Tryz.prog 54 #[.float .f64 R] a fun e c=>e=.returned (.float .f64 E)/\Below a.heap.size a c))
  (O:Hid (∀ a,Calls Tryz.prog 224 #[.float .f64 E,.float .f64 y0,.float .f64 y1] a fun e c=>e=.returned (.float .f64 H)/\c=a)) :
  Calls Tryz.prog 215 #[.agg #[.int .i64 kind,.slice (some ⟨f,g,none⟩) n cx,.slice (some ⟨b,d,none⟩) n cy],.int .i64 (k:Int),.int .i64 x] w fun e c=>e=.returned (.float .f64 H)/\Below w.heap.size w c:=by
 have f1:IntKind.i64.wrap ((k:Int)+1)=(k:Int)+1:=by rw [IntKind.wrap_i64];omega
 have f2:IntKind.i64.wrap (q - x)=(l:Int):=by rw [IntKind.wrap_i64];omega
 have f3:IntKind.i64.wrap (x - t)=(r:Int):=by rw [IntKind.wrap_i64];omega
 have g1:(0:Int)<=(k:Int)+1:=by omega
 have g2:(k:Int)+1<(n:Int):=by omega
 have g3:(0:Int)<=(k:Int):=by omega
 have g4:(k:Int)<(n:Int):=by omega
 have p:Hid (∀ m,PieR w kind (.slice (some ⟨f,g,none⟩) n cx) (.slice (some ⟨b,d,none⟩) n cy) f g b d k t q y0 y1 (A.drewN m)):=fun m=>o.out.drewN m
 have P:=o.out.box.t1;have U:=o.out.a0;have W:=o.out.a1;clear X V
 go_enter Tryz.func215,Tryz.ntmps215
 go_wp2_with fail
 clear C
 go_quiet (fail)
 go_wp2_with fail
 clear P U W o;generalize u:A.drewN _=Q at *
 have i:Hid (PieR w kind (.slice (some ⟨f,g,none⟩) n cx) (.slice (some ⟨b,d,none⟩) n cy) f g b d k t q y0 y1 Q):=by show PieR _ _ _ _ _ _ _ _ _ _ _ _ _ _;rw [<- u];exact p.out _
 clear u p;have M:=i.out.box.t2;have L:=i.out.b0;have J:=i.out.b1
 go_region_held3 (fun x=>x.cell? ⟨w.heap.size,2,none⟩=some (.slice (some ⟨b,d,none⟩) n cy)/\x.cell? ⟨b,d+k,none⟩=some (.float .f64 y0)/\x.cell? ⟨b,d+(k+1),none⟩=some (.float .f64 y1)) (first | exact i.out.all | exact I.out.all | exact D.out.all | exact G.out.all | exact h.out.all | go_keep) (first | ((go_at_call_of 223 (Value.float FloatKind.f64 y0);refine (F.out _).mono ?_;rintro e w2 ⟨rfl,z⟩;have I:=hideS (i.out.drew.step z);clear z)) | ((go_at_call_of 223 (Value.float FloatKind.f64 y1);refine (B.out _).mono ?_;rintro e w3 ⟨rfl,y⟩;have D:=hideS (I.out.step y);clear y)) | ((go_at_call 220;refine (Y.out _).mono ?_;rintro e w4 ⟨rfl,s⟩;have G:=hideS (D.out.step s);clear s)) | ((go_at_call 54;refine (T.out _).mono ?_;rintro e Z ⟨rfl,j⟩;have h:=hideS (G.out.step j);clear j)))
 all_goals
  clear M L J;have M:=h.out.box.t2;have L:=h.out.b0;have J:=h.out.b1;have v:=hideS h.out.box.bl;clear i I D G h
  go_wp2_with fail
  go_region_with ((go_at_call 224;refine (O.out _).mono ?_;rintro e w6 ⟨rfl,rfl⟩))
  all_goals
   go_wp2_with fail
   go_ret
   exact⟨rfl,v.out.os,v.out.tape,v.out.output,v.out.size,v.out.block⟩
def jp (a b c d:Int):Obj:=.cells #[.int .i64 a,.int .i64 b,.int .i64 c,.int .i64 d] 248
theorem nL {w:World} {g:Nat} {a b c d:Int} (h:w.heap[g]? =some (jp a b c d)):(w.cell? ⟨g,0,none⟩=some (.int .i64 a)/\w.cell? ⟨g,1,none⟩=some (.int .i64 b)/\w.cell? ⟨g,2,none⟩=some (.int .i64 c)/\w.cell? ⟨g,3,none⟩=some (.int .i64 d))/\∀ i,w.frozen? ⟨g,i,none⟩=false:=by
 unfold jp at h
 refine⟨⟨?_,?_,?_,?_⟩,fun i=>frozen_of_row w g i _ _ h⟩
 all_goals
  simp only [World.cell?,h,Option.isSome_none,Bool.false_eq_true,if_false]
  rfl
def yH (w:World) (g:Nat) (a b c d:Int):World:=(((w.setCell ⟨g,0,none⟩ (.int .i64 a)).setCell ⟨g,1,none⟩ (.int .i64 b)).setCell ⟨g,2,none⟩ (.int .i64 c)).setCell ⟨g,3,none⟩ (.int .i64 d)
theorem tF {w:World} {g:Nat} {a b c d a' b' c' d':Int} (h:w.heap[g]? =some (jp a b c d)):(yH w g a' b' c' d').heap[g]? =some (jp a' b' c' d'):=by
 unfold jp at h
 exact av _ (av _ (av _ (av _ h)))
theorem yI (w:World) (g:Nat) (a b c d:Int) (B:Nat) (e:B<=g):Below B w (yH w g a b c d):=
 ((((Below.refl B w).setCell (p:=⟨g,0,none⟩) e _).setCell (p:=⟨g,1,none⟩) e _).setCell (p:=⟨g,2,none⟩) e _).setCell (p:=⟨g,3,none⟩) e _
theorem Fp {w wr c:World} {b:Nat} {v:Value} {L:Nat} {a:A.St} (h:A.Run w wr b v L a) (d:Below wr.heap.size wr c):A.Run w c b v L a:=⟨h.acc.below d,h.bl.trans (d.mono h.bl.size)⟩
theorem vC (a b c d:Nat) (w:World):(Instr.index 249 (.agg #[.float .f64 a,.float .f64 b,.float .f64 c,.float .f64 d]) (.int .i64 0)).run Tryz.prog w=.ok (.float .f64 a) w/\(Instr.index 249 (.agg #[.float .f64 a,.float .f64 b,.float .f64 c,.float .f64 d]) (.int .i64 1)).run Tryz.prog w=.ok (.float .f64 b) w/\(Instr.index 249 (.agg #[.float .f64 a,.float .f64 b,.float .f64 c,.float .f64 d]) (.int .i64 2)).run Tryz.prog w=.ok (.float .f64 c) w/\(Instr.index 249 (.agg #[.float .f64 a,.float .f64 b,.float .f64 c,.float .f64 d]) (.int .i64 3)).run Tryz.prog w=.ok (.float .f64 d) w:=by
 refine⟨?_,?_,?_,?_⟩ <;>kernel_rfl
structure CubR (g:Nat) (ws:List Int) (ps:List Nat) (k:Nat) (q:Int) (c:Nat):Prop where
 f:floatOfInt .f64 q=fi q
 nx:wAt ws ps (k+1)=(wAt ws ps k).merge (A.bn (fi q) c)
 u:U64 (fi q:Nat)
 v:U64 (c:Nat)
theorem Bv (kind x:Int) (H I cx J G cy n k D D3:Nat) (x0 x1 i e q1 r r1 r2 t s2 q t1 y n1:Int) (y0 y1 a b c d R:Nat) (w w0:World) (bz:w.alloc (.cells #[.int .i64 kind,.slice (some ⟨H,I,none⟩) n cx,.slice (some ⟨J,G,none⟩) n cy] 195)=w0)
  (HB:Hid (PieR w kind (.slice (some ⟨H,I,none⟩) n cx) (.slice (some ⟨J,G,none⟩) n cy) H I J G k x0 x1 y0 y1 w0)) (cm:k+1<n) (hn:n<=1000) (he:x1 - x=e) (hi:x - x0=i) (hD:e+i=(D:Int)) (_e0:0<=e) (_e1:e<=109572) (i0:0<=i) (i1:i<=109572) (cp:(D:Int)<=109572) (hC:CubW (D:Int) i e q1 r r1 r2 t s2 q t1 y n1 (D3:Int)) (bb:1<=D3) (na:NumW a) (nb:NumW b) (nc:NumW c) (nd:NumW d) (hR:aR (wAt [r,t,q,y] [a,b,c,d] 4) D3=R)
  (HP:Hid (∀ wx,Below w.heap.size w wx->Calls Tryz.prog 221 #[.agg #[.int .i64 kind,.slice (some ⟨H,I,none⟩) n cx,.slice (some ⟨J,G,none⟩) n cy],.int .i64 (k:Int)] wx fun e w'=>e=.returned (.agg #[.float .f64 a,.float .f64 b,.float .f64 c,.float .f64 d])/\Below wx.heap.size wx w')) :
  Calls Tryz.prog 214 #[.agg #[.int .i64 kind,.slice (some ⟨H,I,none⟩) n cx,.slice (some ⟨J,G,none⟩) n cy],.int .i64 (k:Int),.int .i64 x] w fun e w'=>e=.returned (.float .f64 R)/\Below w.heap.size w w':=by
 obtain⟨ca,cc,bk,cl,bv,bo,ci,br,cd,ai,bh,⟨p1,da⟩,⟨p2,dc⟩,⟨p3,ct⟩,⟨p4,cq⟩,⟨p5,cu⟩,⟨p6,db⟩,⟨p7,cs⟩,⟨p8,cr⟩,⟨p9,cv⟩,⟨M,C⟩,⟨W,B⟩⟩:=hC;have h4:=xI (K:=1074) rfl (a:=r) (b:=t) (c:=q) (d:=y) ⟨by omega,by omega⟩ ⟨by omega,by omega⟩ ⟨by omega,by omega⟩ ⟨by omega,by omega⟩ na.lt na.nb nb.lt nb.nb nc.lt nc.nb nd.lt nd.nb
 have hs:(wAt [r,t,q,y] [a,b,c,d] 4).s=0:=by rw [h4]
 have hO:A.gG (wAt [r,t,q,y] [a,b,c,d] 4).N D3=R:=by rw [<- hR];unfold aR;rw [if_pos hs]
 have C0:Hid (CubR 0 [r,t,q,y] [a,b,c,d] 0 r a):=⟨bE _,rfl,aU (kn (by omega) (by omega)),aU na.lt⟩
 have C1:Hid (CubR 0 [r,t,q,y] [a,b,c,d] 1 t b):=⟨bE _,rfl,aU (kn (by omega) (by omega)),aU nb.lt⟩
 have C2:Hid (CubR 0 [r,t,q,y] [a,b,c,d] 2 q c):=⟨bE _,rfl,aU (kn (by omega) (by omega)),aU nc.lt⟩
 have C3:Hid (CubR 0 [r,t,q,y] [a,b,c,d] 3 y d):=⟨bE _,rfl,aU (kn (by omega) (by omega)),aU nd.lt⟩
 have hz:wAt [r,t,q,y] [a,b,c,d] 0=⟨0,0⟩:=rfl;obtain⟨F,hF⟩:∃ F,wAt [r,t,q,y] [a,b,c,d]=F:=⟨_,rfl⟩;have U:=hideS (And.intro hs (And.intro hO (And.intro bb (show D3<9223372036854775808 by omega))))
 rw [hF] at U
 have HZ:=hideS hz;rw [hF] at HZ
 have f1:IntKind.i64.wrap ((k:Int)+1)=(k:Int)+1:=by rw [IntKind.wrap_i64];omega
 have f2:IntKind.i64.wrap (x1 - x)=e:=by rw [IntKind.wrap_i64];omega
 have f3:IntKind.i64.wrap (x - x0)=i:=by rw [IntKind.wrap_i64];omega
 have g1:(0:Int)<=(k:Int)+1:=by omega
 have g2:(k:Int)+1<(n:Int):=by omega
 have g3:(0:Int)<=(k:Int):=by omega
 have g4:(k:Int)<(n:Int):=by omega
 have ad:Hid (∀ m,PieR w kind (.slice (some ⟨H,I,none⟩) n cx) (.slice (some ⟨J,G,none⟩) n cy) H I J G k x0 x1 y0 y1 (w0.drewN m)):=fun m=>HB.out.drewN m
 have u1:=HB.out.box.t1;have a0:=HB.out.a0;have a1:=HB.out.a1;have HQ:=hideS (And.intro ai (And.intro bh (And.intro M (And.intro C (And.intro W B)))));clear he hi hs hO hR h4 na nb nc nd hz ai bh M C W B bb
 go_enter Tryz.func214,Tryz.ntmps214
 go_wp2_with fail
 clear bz
 go_quiet (fail)
 clear u1 a0 a1 HB f1 f2 f3;generalize ba:w0.drewN _=o at *
 have K0:Hid (PieR w kind (.slice (some ⟨H,I,none⟩) n cx) (.slice (some ⟨J,G,none⟩) n cy) H I J G k x0 x1 y0 y1 o):=by show PieR _ _ _ _ _ _ _ _ _ _ _ _ _ _;rw [<- ba];exact ad.out _
 clear ba ad;have HA:=hideS (show (o.alloc (jp 0 0 0 0)).heap[o.heap.size]? =some (jp 0 0 0 0) from heap_alloc_new o _)
 obtain⟨⟨c0,c1,c2,c3⟩,fz⟩:=nL HA.out;have z0:=fz 0;have z1:=fz 1;have z2:=fz 2;have z3:=fz 3;have HL:=hideS (((Below.refl o.heap.size o).alloc (Nat.le_refl _) (jp 0 0 0 0)).trans (yI _ o.heap.size r t q y o.heap.size (Nat.le_refl _)));have HY:=hideS (nL (tF (a':=r) (b':=t) (c':=q) (d':=y) HA.out)).1;have HG:Hid (o.heap.size<(yH (o.alloc (jp 0 0 0 0)) o.heap.size r t q y).heap.size):=(Array.getElem?_eq_some_iff.1 (tF (a':=r) (b':=t) (c':=q) (d':=y) HA.out)).1
 clear fz HA;obtain⟨w2,Y⟩:∃ w2,o.alloc (jp 0 0 0 0)=w2:=⟨_,rfl⟩;rw [Y] at c0 c1 c2 c3 z0 z1 z2 z3 HL HY HG
 unfold jp at Y
 obtain⟨g,T⟩:∃ g,yH w2 o.heap.size r t q y=g:=⟨_,rfl⟩;rw [T] at HL HY HG
 unfold yH at T
 have al:=hideS (A.uT g g.heap.size (Nat.le_refl _));have K3:=hideS (K0.out.step HL.out);have am:Hid (w.heap.size<=g.heap.size/\Below w.heap.size w g):=⟨K3.out.box.bl.size,K3.out.box.bl⟩;clear HL K0
 go_wp2_with fail
 clear Y T c0 c1 c2 c3 z0 z1 z2 z3 ca cc bk cl bv bo ci br cd;refine al.out.mono ?_
 rintro Z w4 ⟨rfl,ac,bc⟩;have R0:Hid (A.Run g w4 g.heap.size (.slice none 0 0) (72*0) (F 0)):=by show A.Run _ _ _ _ _ _;rw [HZ.out];exact⟨ac,bc⟩
 have K4:=hideS (K3.out.step bc);clear ac bc al K3;have u0:=K4.out.box.t0;have u1:=K4.out.box.t1;have u2:=K4.out.box.t2
 go_wp2_with fail
 refine (HP.out _ K4.out.box.bl).mono ?_
 rintro Z w5 ⟨rfl,ab⟩;have R1:=hideS (Fp R0.out ab);clear ab u0 u1 u2 K4 R0 HP;have HF:=hideS hF;have HX:Hid (w.heap.size<=g.heap.size/\Below w.heap.size w g):=am;clear hF HZ am
 go_wp2_with fail
 go_loopw [12,13,61] (fun _ _ i wr=>∃ k:Nat,k<=4/\i=.int .i64 k/\Hid (∃ v,A.Run g wr g.heap.size v (72*k) (F k))) (fun _ _ i _=>4 - (intOf i).toNat)
 case atStart=>exact⟨0,Nat.zero_le _,rfl,⟨_,R1.out⟩⟩
 case round=>
  clear R1;obtain⟨k,hk,rfl,HR⟩:=hrel;obtain⟨v,h⟩:=HR.out
  by_cases dd:k<4
  ·rcases (show k=0\/k=1\/k=2\/k=3 by omega) with rfl | rfl | rfl | rfl
   ·have hc:wr.cell? ⟨o.heap.size,0,none⟩=some (.int .i64 r):=(h.bl.cell (p:=⟨o.heap.size,0,none⟩) HG.out).trans HY.out.1;have hf:=C0.out.f;have P:=(vC a b c d wr).1;have z:=hideS C0.out.nx;rw [HF.out] at z
    have j:=hideS (A.gH g.heap.size g.heap.size v (72*0) _ (fi r) a wr h.acc h.bl.size C0.out.u C0.out.v (by omega))
    have E:=hideS h;generalize fi r=X at *
    clear h HR
    go_wp2_with fail
    refine j.out.mono ?_
    rintro Z L ⟨rfl,S,O,l⟩;have V:Hid (∃ v,A.Run g L g.heap.size v (72*1) (F 1)):=⟨O,by rw [z.out];exact ((E.out.drewN S).did l).mono (by omega)⟩
    clear l j E
    go_wp2_with fail
    go_roundw
    case rel=>exact⟨1,by omega,by simp,V⟩
    case measure=>simp [intOf]
   ·have hc:wr.cell? ⟨o.heap.size,1,none⟩=some (.int .i64 t):=(h.bl.cell (p:=⟨o.heap.size,1,none⟩) HG.out).trans HY.out.2.1;have hf:=C1.out.f;have P:=(vC a b c d wr).2.1;have z:=hideS C1.out.nx;rw [HF.out] at z
    have j:=hideS (A.gH g.heap.size g.heap.size v (72*1) _ (fi t) b wr h.acc h.bl.size C1.out.u C1.out.v (by omega))
    have E:=hideS h;generalize fi t=X at *
    clear h HR
    go_wp2_with fail
    refine j.out.mono ?_
    rintro Z L ⟨rfl,S,O,l⟩;have V:Hid (∃ v,A.Run g L g.heap.size v (72*2) (F 2)):=⟨O,by rw [z.out];exact ((E.out.drewN S).did l).mono (by omega)⟩
    clear l j E
    go_wp2_with fail
    go_roundw
    case rel=>exact⟨2,by omega,by simp,V⟩
    case measure=>simp [intOf]
   ·have hc:wr.cell? ⟨o.heap.size,2,none⟩=some (.int .i64 q):=(h.bl.cell (p:=⟨o.heap.size,2,none⟩) HG.out).trans HY.out.2.2.1;have hf:=C2.out.f;have P:=(vC a b c d wr).2.2.1;have z:=hideS C2.out.nx;rw [HF.out] at z
    have j:=hideS (A.gH g.heap.size g.heap.size v (72*2) _ (fi q) c wr h.acc h.bl.size C2.out.u C2.out.v (by omega))
    have E:=hideS h;generalize fi q=X at *
    clear h HR
    go_wp2_with fail
    refine j.out.mono ?_
    rintro Z L ⟨rfl,S,O,l⟩;have V:Hid (∃ v,A.Run g L g.heap.size v (72*3) (F 3)):=⟨O,by rw [z.out];exact ((E.out.drewN S).did l).mono (by omega)⟩
    clear l j E
    go_wp2_with fail
    go_roundw
    case rel=>exact⟨3,by omega,by simp,V⟩
    case measure=>simp [intOf]
   ·have hc:wr.cell? ⟨o.heap.size,3,none⟩=some (.int .i64 y):=(h.bl.cell (p:=⟨o.heap.size,3,none⟩) HG.out).trans HY.out.2.2.2;have hf:=C3.out.f;have P:=(vC a b c d wr).2.2.2;have z:=hideS C3.out.nx;rw [HF.out] at z
    have j:=hideS (A.gH g.heap.size g.heap.size v (72*3) _ (fi y) d wr h.acc h.bl.size C3.out.u C3.out.v (by omega))
    have E:=hideS h;generalize fi y=X at *
    clear h HR
    go_wp2_with fail
    refine j.out.mono ?_
    rintro Z L ⟨rfl,S,O,l⟩;have V:Hid (∃ v,A.Run g L g.heap.size v (72*4) (F 4)):=⟨O,by rw [z.out];exact ((E.out.drewN S).did l).mono (by omega)⟩
    clear l j E
    go_wp2_with fail
    go_roundw
    case rel=>exact⟨4,by omega,by simp,V⟩
    case measure=>simp [intOf]
  ·obtain rfl:k=4:=by omega
   have Q:=hideS (A.xC g.heap.size g.heap.size v (72*4) (F 4) D3 wr h.acc h.bl.size (by omega) U.out.2.2.1 U.out.2.2.2 U.out.1 (A.tE U.out.2.2.1 (by have:=U.out.2.2.2;omega)))
   rw [U.out.2.1] at Q
   have bi:=hideS (HX.out.2.trans (h.bl.mono HX.out.1));have bs:=hideS (Nat.le_trans HX.out.1 h.bl.size);obtain⟨m1,m2,M,C,W,B⟩:=HQ.out;clear h HR
   go_wp2_with fail
   refine Q.out.mono ?_
   rintro Z L ⟨rfl,ak⟩;have cf:=hideS (bi.out.trans (ak.mono bs.out));clear ak Q
   go_wp2_with fail
   go_ret
   exact⟨rfl,cf.out⟩
noncomputable def JI (kind:Int) (xs:List Int) (ys:List Nat) (k D:Nat) (i:Int):Nat:=if kind=1 then ys.getD k 0 else if kind=2 then linV ys k D i else if kind=3 then AR (ptL xs ys k) D i else logV lnW exW ys k D i
theorem MP {kind:Int} {xs:List Int} {ys:List Nat} {k:Nat} (h:OkT kind xs ys) (g:∀ i<ys.length,U64 (ys.getD i 0:Nat)) (j:k+1<xs.length):∃ a b c d,ptL xs ys k=[a,b,c,d]/\NumW a/\NumW b/\NumW c/\NumW d:=by
 rcases Int.le_total (ae (ys.getD k 0:Nat)) (ae (ys.getD (k+1) 0:Nat)) with f | f
 ·obtain⟨p,q,e,u⟩:=JB h g j f;exact⟨_,_,_,_,e,u.n0,u.n1,u.n2,u.n3⟩
 ·obtain⟨p,q,e,u⟩:=yA h g j f;exact⟨_,_,_,_,e,u.n0,u.n1,u.n2,u.n3⟩
theorem yJ {y:Nat} (h:NumW y) (b:ltB 0 (y:Nat)=true) (w:World):Calls Tryz.prog 223 #[.float .f64 y] w fun e a=>e=.returned (.float .f64 (lnW y))/\Below w.heap.size w a:=by
 obtain⟨c,d⟩:=iC h.lt b;obtain⟨z,e,l⟩:=(jl h.lt).fin h.nb d c;refine ((jl h.lt).prog w).mono fun k a ⟨r,f,g,j⟩=>⟨?_,j⟩
 rw [f];have i:lnW y=z:=by unfold lnW;rw [if_pos h.lt,e,ar]
 rw [e] at g
 rw [i,cR g.1]
theorem JJ {y:Nat} (a:y<18446744073709551616) (hn:ah (y:Int)=false) (w:World):Calls Tryz.prog 54 #[.float .f64 y] w fun e b=>e=.returned (.float .f64 (exW y))/\Below w.heap.size w b:=by
 obtain⟨z,e,i⟩:=(ce a).num hn;refine ((ce a).prog w).mono fun h b ⟨r,c,g,f⟩=>⟨?_,f⟩
 rw [c];have d:exW y=z:=by unfold exW;rw [if_pos a,e,ar]
 rw [e] at g
 rw [d,cR g.1]
theorem Fq (kind x:Int) (F B:Option Addr) (s t cx v A cy k D:Nat) (i:Int) (xs:List Int) (ys:List Nat) (w:World) (h:OkT kind xs ys) (m:TFl w F B s t v A xs ys) (z:Inside xs x k D i) :
  Calls Tryz.prog (iR kind) #[.agg #[.int .i64 kind,.slice F xs.length cx,.slice B ys.length cy],.int .i64 (k:Int),.int .i64 x] w fun e O=>e=.returned (.float .f64 (JI kind xs ys k D i))/\Below w.heap.size w O:=by
 have j:=z.lt;have M:=h.len;have hh:=h.hi;have E:=eo h z;have i0:=z.lo;have i1:=z.hi';have e1:=z.hD;have e2:=z.hi;have H:=aN h m.u (show k<xs.length by omega)
 have G:=aN h m.u j;have P:=Pp (kind:=kind) (cx:=cx) (cy:=cy) m M j;have o:=m.x.at_ (by omega)
 have n:=m.y.at_ (by omega)
 obtain⟨l,q⟩:∃ l:Nat,(D:Int) - i=(l:Int):=⟨((D:Int) - i).toNat,by omega⟩
 obtain⟨r,p⟩:∃ r:Nat,i=(r:Int):=⟨i.toNat,by omega⟩
 unfold iR JI;have k1:=h.k1;have k4:=h.k4
 by_cases J:kind=1
 ·rw [if_pos J,if_pos J];exact JH kind x F B s t cx v A cy k xs ys w (by omega) m (by omega)
 ·rw [if_neg J,if_neg J]
  by_cases I:kind=2
  ·rw [if_pos I,if_pos I];subst o n;rw [M] at P ⊢
   refine yG kind x s t cx v A cy xs.length k l r _ _ _ _ _ w _ rfl P j (by omega) (by omega) (by omega) (by omega) (by omega) (fun f=>nK l r D _ _ _ f (by omega) (by omega) (by omega) (by omega) H G ?_)
   unfold linV;rw [q,p]
  ·rw [if_neg I,if_neg I]
   by_cases L:kind=3
   ·rw [if_pos L,if_pos L];obtain⟨a,b,c,d,U,na,nb,W,nd⟩:=MP h m.u j;obtain⟨w1,w2,r1,X,r3,s2,s3,Y,t2,m1,Z,g⟩:=uZ (D:=(D:Int)) (i:=i) (e:=(D:Int) - i) (by omega) (by omega) (by omega) (by omega) (by omega) E.2
    have Q:Z=((D*D*D:Nat):Int):=by rw [<- g.hn2,<- g.hn1];simp
    rw [Q] at g
    have T:Hid (∀ f,Below w.heap.size w f->Calls Tryz.prog 221 #[.agg #[.int .i64 kind,.slice F xs.length cx,.slice B ys.length cy],.int .i64 (k:Int)] f fun e O=>e=.returned (.agg #[.float .f64 a,.float .f64 b,.float .f64 c,.float .f64 d])/\Below f.heap.size f O):=fun f hb=>by
     have:=Bt kind F B s t cx v A cy k xs ys f h (m.below hb) j;rw [U] at this
     exact this
    subst o n;rw [M] at P T ⊢
    refine Bv kind x s t cx v A cy xs.length k D (D*D*D) _ _ i ((D:Int) - i) w1 w2 r1 X r3 s2 s3 Y t2 m1 _ _ a b c d _ w _ rfl P j (by omega) (by omega) (by omega) (by omega) (by omega) (by omega) (by omega) (by omega) E.2 g (Nat.mul_pos (Nat.mul_pos E.1 E.1) E.1) na nb W nd ?_ T
    unfold AR;rw [U,<- g.hq2,<- g.hq1,<- g.hr3,<- g.hr2,<- g.hr1,<- g.hs3,<- g.hs2,<- g.hr1,<- g.ht2,<- g.ht1]
   ·rw [if_neg L,if_neg L];obtain rfl:kind=4:=by omega
    have V:=(aq (h.node k (by omega))).2.2.2.2 rfl
    have S:=(aq (h.node (k+1) j)).2.2.2.2 rfl;have R:=jQ H V;have N:=jQ G S;have hv:linV [lnW (ys.getD k 0),lnW (ys.getD (k+1) 0)] 0 D i=aR (wAt [(D:Int) - i,i] [lnW (ys.getD k 0),lnW (ys.getD (k+1) 0)] 2) D:=rfl;have C:aR (wAt [(D:Int) - i,i] [lnW (ys.getD k 0),lnW (ys.getD (k+1) 0)] 2) D<18446744073709551616/\ah (aR (wAt [(D:Int) - i,i] [lnW (ys.getD k 0),lnW (ys.getD (k+1) 0)] 2) D:Nat)=false:=by
     rw [vh (K:=1074) rfl ⟨by omega,by omega⟩ ⟨by omega,by omega⟩ R.lt R.nb N.lt N.nb,kL]
     exact⟨by have:=(cA (((D:Int) - i)*uI 1074 (lnW (ys.getD k 0))+i*uI 1074 (lnW (ys.getD (k+1) 0))) D).1.2;omega,(cA _ D).2.1⟩
    subst o n;rw [M] at P ⊢
    refine Bu 4 x s t cx v A cy xs.length k l r _ _ _ _ (lnW (ys.getD k 0)) (lnW (ys.getD (k+1) 0)) _ (exW (aR (wAt [(l:Int),(r:Int)] [lnW (ys.getD k 0),lnW (ys.getD (k+1) 0)] 2) D)) _ w _ rfl P j (by omega) (by omega) (by omega) (by omega) (by omega) (fun f=>yJ H V f) (fun f=>yJ G S f) (fun f=>nK l r D _ _ _ f (by omega) (by omega) (by omega) (by omega) R N rfl) ?_ ?_
    ·rw [<- q,<- p];exact fun f=>JJ C.1 C.2 f
    ·rw [<- q,<- p];exact fun f=>mU _ _ _ f (JC _) H G
theorem Fr (kind x E:Int) (F f g:Value) (w:World) (h:E≠0) (j:Hid (∀ b,Below w.heap.size w b->Calls Tryz.prog 178 #[.agg #[.int .i64 kind,f,g]] b fun e c=>e=.returned (.tuple #[F,.int .i64 E])/\Below b.heap.size b c)) :
  Calls Tryz.prog 160 #[.agg #[.int .i64 kind,f,g],.int .i64 x] w fun e c=>e=.returned (.tuple #[.float .f64 0,.int .i64 E])/\Below w.heap.size w c:=by
 have i:=hideS (cF w kind f g);have k:(E !=0)=true:=bne_iff_ne.2 h;clear h
 go_enter Tryz.func160,Tryz.ntmps160
 go_wp2_with fail
 refine (j.out _ i.out.bl).mono ?_
 rintro e l ⟨rfl,a⟩;have d:=hideS (i.out.step a);clear a
 go_wp2_with fail
 go_ret2
 exact⟨rfl,d.out.bl⟩
theorem Fs (kind x k E:Int) (F g h:Value) (w:World) (l:E≠0) (p:Hid (∀ a,Below w.heap.size w a->Calls Tryz.prog 178 #[.agg #[.int .i64 kind,g,h]] a fun e d=>e=.returned (.tuple #[F,.int .i64 0])/\Below a.heap.size a d))
  (n:Hid (∀ a,Below w.heap.size w a->Calls Tryz.prog 179 #[g,.int .i64 x] a fun e d=>e=.returned (.tuple #[.int .i64 k,.int .i64 E])/\Below a.heap.size a d)) :
  Calls Tryz.prog 160 #[.agg #[.int .i64 kind,g,h],.int .i64 x] w fun e d=>e=.returned (.tuple #[.float .f64 0,.int .i64 E])/\Below w.heap.size w d:=by
 have j:=hideS (cF w kind g h);have o:(E !=0)=true:=bne_iff_ne.2 l;clear l
 go_enter Tryz.func160,Tryz.ntmps160
 go_wp2_with fail
 refine (p.out _ j.out.bl).mono ?_
 rintro e q ⟨rfl,c⟩;have b:=hideS (j.out.step c);clear c;have m:=b.out.t1
 go_wp2_with fail
 refine (n.out _ b.out.bl).mono ?_
 rintro e r ⟨rfl,f⟩;have i:=hideS (b.out.step f);clear f m
 go_wp2_with fail
 go_ret2
 exact⟨rfl,i.out.bl⟩
theorem JK (kind x i:Int) (F:Nat) (f g cx l m cy n k y V:Nat) (w:World) (hF:F=212\/F=213\/F=214\/F=215) (E:k<n) (_hn:n<=256) (u:i=x->V=y)
  (C:Hid (∀ a,Below w.heap.size w a->Calls Tryz.prog 178 #[.agg #[.int .i64 kind,.slice (some ⟨f,g,none⟩) n cx,.slice (some ⟨l,m,none⟩) n cy]] a fun e c=>e=.returned (.tuple #[.func (.func F) #[] #[],.int .i64 0])/\Below a.heap.size a c))
  (A:Hid (∀ a,Below w.heap.size w a->Calls Tryz.prog 179 #[.slice (some ⟨f,g,none⟩) n cx,.int .i64 x] a fun e c=>e=.returned (.tuple #[.int .i64 (k:Int),.int .i64 0])/\Below a.heap.size a c))
  (D:Hid (∀ a,Below w.heap.size w a->a.cell? ⟨f,g+k,none⟩=some (.int .i64 i)/\a.cell? ⟨l,m+k,none⟩=some (.float .f64 y)))
  (z:Hid (i≠x->∀ a,Below w.heap.size w a->Calls Tryz.prog F #[.agg #[.int .i64 kind,.slice (some ⟨f,g,none⟩) n cx,.slice (some ⟨l,m,none⟩) n cy],.int .i64 (k:Int),.int .i64 x] a fun e c=>e=.returned (.float .f64 V)/\Below a.heap.size a c)) :
  Calls Tryz.prog 160 #[.agg #[.int .i64 kind,.slice (some ⟨f,g,none⟩) n cx,.slice (some ⟨l,m,none⟩) n cy],.int .i64 x] w fun e c=>e=.returned (.tuple #[.float .f64 V,.int .i64 0])/\Below w.heap.size w c:=by
 have t:=hideS (cF w kind (.slice (some ⟨f,g,none⟩) n cx) (.slice (some ⟨l,m,none⟩) n cy));have B:=hideS u;clear u;rcases hF with rfl | rfl | rfl | rfl
 all_goals
  go_enter Tryz.func160,Tryz.ntmps160
  go_wp2_with fail
  refine (C.out _ t.out.bl).mono ?_
  rintro e G ⟨rfl,j⟩;have d:=hideS (t.out.step j);clear j;have s:=d.out.t1
  go_wp2_with fail
  refine (A.out _ d.out.bl).mono ?_
  rintro e H ⟨rfl,p⟩;have b:=hideS (d.out.step p);clear p s;have I:=b.out.t0;have s:=b.out.t1;have J:=b.out.t2;obtain⟨c0,c1⟩:=D.out _ b.out.bl
  by_cases h:i=x
  ·have v:(i==x)=true:=beq_iff_eq.2 h;obtain rfl:=B.out h;clear h
   go_wp2_with fail
   go_ret2
   exact⟨rfl,b.out.bl⟩
  ·have v:(i==x)=false:=beq_eq_false_iff_ne.2 h;have r:=hideS (z.out h);clear h
   go_wp2_with fail
   refine (r.out _ b.out.bl).mono ?_
   rintro e K ⟨rfl,o⟩;have q:=hideS (b.out.step o);clear o
   go_wp2_with fail
   go_ret2
   exact⟨rfl,q.out.bl⟩
inductive AtO (kind:Int) (xs:List Int) (ys:List Nat) (x:Int):Nat->Int->Prop
 | err (k E:Int) (h:FindO kind xs ys x k E) (hE:E≠0):AtO kind xs ys x 0 E
 | node (k:Nat) (ok:OkT kind xs ys) (h:FindO kind xs ys x (k:Int) 0) (hk:FindR xs x k) (he:xs.getD k 0=x):AtO kind xs ys x (ys.getD k 0) 0
 | piece (k D:Nat) (i:Int) (ok:OkT kind xs ys) (h:FindO kind xs ys x (k:Int) 0) (hk:FindR xs x k) (he:xs.getD k 0≠x) (hI:Inside xs x k D i):AtO kind xs ys x (JI kind xs ys k D i) 0
theorem Pq (kind:Int) (xs:List Int) (ys:List Nat) (x:Int):∃ V E,AtO kind xs ys x V E:=by
 obtain⟨k,E,h⟩:=GC kind xs ys x
 by_cases a:E=0
 ·subst a;generalize e:(0:Int)=z at h
  have g:=h;cases h with
  | bad E h a=>exact absurd e.symm a
  | out h n=>cases e
  | at_ f j c k b m=>
   by_cases d:xs.getD k 0=x
   ·exact⟨_,_,.node k f g b d⟩
   ·obtain⟨D,i,l⟩:=EM c b d;exact⟨_,_,.piece k D i f g b d l⟩
 ·exact⟨_,_,.err k E h a⟩
theorem yK (kind:Int):iR kind=212\/iR kind=213\/iR kind=214\/iR kind=215:=by
 unfold iR
 split
 ·exact .inl rfl
 ·split
  ·exact .inr (.inl rfl)
  ·split
   ·exact .inr (.inr (.inl rfl))
   ·exact .inr (.inr (.inr rfl))
theorem Fu (kind x E:Int) (V:Nat) (g f:Option Addr) (n o cx p q cy:Nat) (xs:List Int) (ys:List Nat) (w:World) (h:AtO kind xs ys x V E) (l:TFl w g f n o p q xs ys) :
  Calls Tryz.prog 160 #[.agg #[.int .i64 kind,.slice g xs.length cx,.slice f ys.length cy],.int .i64 x] w fun e m=>e=.returned (.tuple #[.float .f64 V,.int .i64 E])/\Below w.heap.size w m:=by
 have t:∀ E,TabR kind xs ys E->∀ a,Below w.heap.size w a->Calls Tryz.prog 178 #[.agg #[.int .i64 kind,.slice g xs.length cx,.slice f ys.length cy]] a fun e m=>e=.returned (.tuple #[chF kind E,.int .i64 E])/\Below a.heap.size a m:=fun E B a d=>Bn kind E g f n o cx p q cy xs ys a B (l.below d)
 have s:∀ k V,OkT kind xs ys->FindO kind xs ys x ((k:Nat):Int) 0->k<xs.length->(xs.getD k 0=x->V=ys.getD k 0)->(xs.getD k 0≠x->∀ a,Below w.heap.size w a->Calls Tryz.prog (iR kind) #[.agg #[.int .i64 kind,.slice g xs.length cx,.slice f ys.length cy],.int .i64 (k:Int),.int .i64 x] a fun e m=>e=.returned (.float .f64 V)/\Below a.heap.size a m)->Calls Tryz.prog 160 #[.agg #[.int .i64 kind,.slice g xs.length cx,.slice f ys.length cy],.int .i64 x] w fun e m=>e=.returned (.tuple #[.float .f64 V,.int .i64 0])/\Below w.heap.size w m:=fun k V b F j J z=>by
  have r:=t 0 (.ok b);have H:=fun a (d:Below w.heap.size w a)=>nJ kind x k 0 g f n o cx p q xs ys a b F (l.below d)
  have A:=fun a (d:Below w.heap.size w a)=>And.intro ((l.below d).x.cell k j) ((l.below d).y.cell k (by rw [b.len];exact j))
  have K:=b.len;obtain rfl:=l.x.at_ (by omega)
  obtain rfl:=l.y.at_ (by omega)
  rw [K] at r z ⊢
  exact JK kind x _ (iR kind) n o cx p q cy xs.length k _ V w (yK kind) j b.hi J r H A z
 cases h with
 | err k E h u=>
  have L:=h;cases h with
  | bad E h u=>exact Fr kind x E _ _ _ w u (t E h)
  | out b N=>exact Fs kind x 0 51 _ _ _ w (by decide) (t 0 (.ok b)) (fun a d=>nJ kind x 0 51 g f n o cx p q xs ys a b L (l.below d))
  | at_ b G C k j M=>exact absurd rfl u
 | node k b h j v=>exact s k _ b h j.lt (fun _=>rfl) (fun c=>absurd v c)
 | piece k D i b h j v I=>exact s k _ b h j.lt (fun c=>absurd c v) (fun _ a d=>Fq kind x g f n o cx p q cy k D i xs ys a b (l.below d) I)
theorem Pr {kind x:Int} {V:Nat} {xs:List Int} {ys:List Nat} (h:AtO kind xs ys x V 0) (m:kind≠4):∃ k:Nat,OkT kind xs ys/\FindO kind xs ys x (k:Int) 0/\FindR xs x k/\AtR xs ys kind x k V:=by
 generalize g:(0:Int)=z at h
 cases h with
 | err k E h j=>exact absurd g.symm j
 | node k a h b e=>exact⟨k,a,h,b,.node kind x k e⟩
 | piece k D i a h b e f=>
  refine⟨k,a,h,b,?_⟩
  have n:=a.k1;have l:=a.k4;unfold JI
  by_cases d:kind=1
  ·rw [if_pos d];subst d;exact .flat x k e
  ·rw [if_neg d]
   by_cases c:kind=2
   ·rw [if_pos c];subst c;exact .lin x k D i f
   ·rw [if_neg c,if_pos (show kind=3 by omega)]
    obtain rfl:kind=3:=by omega
    exact .cub x k D i f
theorem yL {kind x:Int} {V:Nat} {xs:List Int} {ys:List Nat} (h:AtO kind xs ys x V 0) (l:∀ i<ys.length,U64 (ys.getD i 0:Nat)):∃ k:Nat,OkT kind xs ys/\FindO kind xs ys x (k:Int) 0/\k<xs.length/\V<18446744073709551616/\ah (V:Nat)=false/\(k+1<xs.length->min (ae (ys.getD k 0:Nat)) (ae (ys.getD (k+1) 0:Nat))<=ae (V:Nat)/\ae (V:Nat)<=max (ae (ys.getD k 0:Nat)) (ae (ys.getD (k+1) 0:Nat)))/\(¬ k+1<xs.length->ae (V:Nat)=ae (ys.getD k 0:Nat)):=by
 by_cases p:kind=4
 ·subst p;generalize s:(0:Int)=z at h
  cases h with
  | err k E h t=>exact absurd s.symm t
  | node k f h g u=>
   have r:=aN f l g.lt;exact⟨k,f,h,g.lt,r.lt,r.nn.nan,fun _=>⟨by omega,by omega⟩,fun _=>rfl⟩
  | piece k D i f h g u q=>
   obtain⟨a,b,c,d⟩:=JD f l q;exact⟨k,f,h,g.lt,b,a,fun _=>⟨c,d⟩,fun c=>absurd q.lt c⟩
 ·obtain⟨k,f,o,g,m⟩:=Pr h p
  by_cases j:k+1<xs.length
  ·rcases Int.le_total (ae (ys.getD k 0:Nat)) (ae (ys.getD (k+1) 0:Nat)) with n | n
   ·obtain⟨a,b,c,d⟩:=qH f l g.lt m (fun _=>n)
    have:=d j;exact⟨k,f,o,g.lt,by have:=a.2;omega,b,fun _=>⟨by omega,by omega⟩,fun c=>absurd j c⟩
   ·obtain⟨a,b,c,d⟩:=lT f l g.lt m (fun _=>n)
    have:=d j;exact⟨k,f,o,g.lt,by have:=a.2;omega,b,fun _=>⟨by omega,by omega⟩,fun c=>absurd j c⟩
  ·obtain⟨a,b,c,d⟩:=qH f l g.lt m (fun e=>absurd e j)
   obtain⟨y,w,A,v⟩:=lT f l g.lt m (fun e=>absurd e j)
   exact⟨k,f,o,g.lt,by have:=a.2;omega,b,fun e=>absurd e j,fun _=>by omega⟩
theorem JL {a b:Nat} (e:a<18446744073709551616) (f:b<18446744073709551616) (c:ah (a:Nat)=false) (d:ah (b:Nat)=false):((FloatKind.f64.format.order a b==some .lt)||(FloatKind.f64.format.order a b==some .eq))=decide (ae (a:Nat)<=ae (b:Nat)):=by
 rw [jB (aU e) (aU f) c d,eI (aU e) (aU f) c d];generalize ae (a:Nat)=r;generalize ae (b:Nat)=s
 by_cases h:r<s<;>by_cases g:r=s<;>by_cases i:r<=s<;>simp [h,g,i]<;>omega
inductive FacO (base kind:Int) (ds:List Int) (fs:List Nat) (n:Int):Nat->Int->Prop
 | bad (E:Int) (h:CurR base kind ds fs E) (hE:E≠0):FacO base kind ds fs n 0 E
 | ok (h:OkV base kind ds fs) (V:Nat) (E:Int) (hA:AtO kind (ctX base ds) (ctY fs) n V E):FacO base kind ds fs n V E
theorem vD (base kind:Int) (a:List Int) (b:List Nat) (n:Int):∃ V E,FacO base kind a b n V E:=by
 obtain⟨E,h⟩:=oJ base kind a b
 by_cases c:E=0
 ·subst c;obtain⟨V,E,d⟩:=Pq kind (ctX base a) (ctY b) n;exact⟨V,E,.ok (jR h) V E d⟩
 ·exact⟨0,E,.bad E h c⟩
theorem oK (base:Int) (a:List Int):(ctX base a).length=a.length+1:=rfl
theorem vE (a:List Nat):(ctY a).length=a.length+1:=rfl
theorem kN (a:List Nat) (i:Nat):(ctY a).getD i 0=prvF a i:=by cases i<;>rfl
theorem JN {a:List Nat} (b:∀ i<a.length,a.getD i 0<18446744073709551616):∀ i<(ctY a).length,(ctY a).getD i 0<18446744073709551616:=fun i hi=>by
 cases i with
 | zero=>exact (by decide:(4607182418800017408:Nat)<18446744073709551616)
 | succ i=>exact b i (by rw [vE] at hi;omega)
theorem Of {a:List Nat} (b:∀ i<a.length,a.getD i 0<18446744073709551616):∀ i<(ctY a).length,U64 ((ctY a).getD i 0:Nat):=fun i hi=>aU (JN b i hi)
theorem JO {base kind:Int} {a:List Int} {d:List Nat} (g:OkV base kind a d) {i:Nat} (hi:i<=a.length):AtO kind (ctX base a) (ctY d) (du base a i) (prvF d i) 0:=by
 have b:=g.table;have m:=oK base a;have c:∀ j,(ctX base a).getD j 0=du base a j:=Bw base a;have le:∀ j k,j<=k->k<=a.length->du base a j<=du base a k:=fun j k e f=>by
  rcases Nat.lt_or_eq_of_le e with h | h
  ·have:=b.rise h (by omega)
   rw [c,c] at this;omega
  ·rw [h];exact Int.le_refl _
 have f:FindR (ctX base a) (du base a i) i:=⟨by omega,by rw [c];exact Int.le_refl _,fun h=>by
  have:=b.step h;rw [c] at this;exact this⟩
 have:=AtO.node (kind:=kind) (ys:=ctY d) i b (.at_ b (by rw [c];exact le 0 i (Nat.zero_le _) hi) (by rw [c,m,Nat.add_sub_cancel];exact le i _ hi (Nat.le_refl _)) i f (fun j l=>⟨by omega,by rw [c];exact le (j+1) i l hi⟩)) f (c i)
 rw [kN] at this
 exact this
theorem jq {base kind:Int} {b:List Int} {a:List Nat} (c:OkV base kind b a):∀ i≤b.length,0<ae (prvF a i:Nat)/\ah (prvF a i:Nat)=false
 | 0,_=>by
  show 0<ae (4607182418800017408:Nat)/\ah (4607182418800017408:Nat)=false
  exact⟨by decide,by decide⟩
 | i+1,hi=>by
  have h:=(ch (c.node i (by omega))).2.2.2
  show 0<ae (a.getD i 0:Nat)/\ah (a.getD i 0:Nat)=false
  unfold ltB at h
  simp only [Bool.and_eq_true,Bool.not_eq_true',decide_eq_true_eq] at h
  have d:ae 0=0:=by decide
  exact⟨by rw [<- d];exact h.2,h.1.2⟩
theorem Fv {base kind:Int} {d:List Int} {a:List Nat} (b:OkV base kind d a) (h:nM a=true):∀ i<d.length,ae (prvF a (i+1):Nat)<=ae (prvF a i:Nat):=fun i hi=>by
 have c:=JM a;rw [h] at c
 cases c with
 | yes f=>
  have:=f i (by rw [b.len];exact hi)
  have p:=jq b i (by omega)
  have q:=jq b (i+1) (by omega)
  have e:ltB (prvF a i:Nat) (prvF a (i+1):Nat)=false:=this;rw [aC p.2 q.2,decide_eq_false_iff_not] at e
  omega
theorem qJ {base kind:Int} {c:List Int} {a:List Nat} (b:OkV base kind c a) (h:nM a=true):∀ i≤c.length,ae (prvF a i:Nat)<=ae (4607182418800017408:Nat)
 | 0,_=>Int.le_refl _
 | i+1,hi=>Int.le_trans (Fv b h i (by omega)) (qJ b h i (by omega))
theorem Dq {base kind a:Int} {d:List Int} {b:List Nat} {W:Nat} (f:OkV base kind d b) (m:∀ i<b.length,b.getD i 0<18446744073709551616) (h:AtO kind (ctX base d) (ctY b) a W 0):W<18446744073709551616/\ah (W:Nat)=false/\0<ae (W:Nat)/\(nM b=true->ae (W:Nat)<=ae (4607182418800017408:Nat)):=by
 obtain⟨k,_,_,l,n,j,g,e⟩:=yL h (Of m);rw [oK] at l g e
 rw [kN,kN] at g
 rw [kN] at e
 have p:=jq f k (by omega)
 refine⟨n,j,?_,fun hF=>?_⟩
 ·by_cases c:k+1<d.length+1
  ·have:=(g c).1;have q:=jq f (k+1) (by omega)
   omega
  ·have:=e c;omega
 ·have o:=qJ f hF k (by omega)
  by_cases c:k+1<d.length+1
  ·have:=(g c).2;have q:=qJ f hF (k+1) (by omega)
   omega
  ·have:=e c;omega
end Go.Proofs.YtfdddijdjpijbaaGreat
