/-  -/
import Derived.Test.YtfdddijdjpijbaaGreatHbn
import Derived.Test.YtfdddijdjpijbaaGreatHau
import Derived.Laws.MakeOwn
import Derived.Sort.Row
import Derived.Test.YtfdddijdjpijbaaGreatHbm
import Derived.Test.YtfdddijdjpijbaaGreatHbk
import Derived.Test.YtfdddijdjpijbaaGreatHbj
import Derived.Test.YtfdddijdjpijbaaGreatHbl
import Derived.Test.YtfdddijdjpijbaaGreatHas
set_option maxHeartbeats 12800000
set_option maxRecDepth 20000
namespace Go.Proofs.YtfdddijdjpijbaaGreat
open Go.RowKit
def qS (a b c d:Nat):Obj:=.cells #[.float .f64 a,.float .f64 b,.float .f64 c,.float .f64 d] 249
structure PBox (w:World) (kind:Int) (vx vy:Value) (wr:World):Prop where
 t0:wr.cell? ⟨w.heap.size,0,none⟩=some (.int .i64 kind)
 t1:wr.cell? ⟨w.heap.size,1,none⟩=some vx
 t2:wr.cell? ⟨w.heap.size,2,none⟩=some vy
 arr:wr.heap[w.heap.size+1]? =some (qS 0 0 0 0)
 bl:Below w.heap.size w wr
 lt:w.heap.size+1<wr.heap.size
theorem Ns (w:World) (kind:Int) (b a:Value):PBox w kind b a ((w.alloc (.cells #[.int .i64 kind,b,a] 195)).alloc (qS 0 0 0 0)):=by
 have d:(w.alloc (.cells #[.int .i64 kind,b,a] 195)).heap.size=w.heap.size+1:=by simp
 have c:∀ i,((w.alloc (.cells #[.int .i64 kind,b,a] 195)).alloc (qS 0 0 0 0)).cell? ⟨w.heap.size,i,none⟩=(w.alloc (.cells #[.int .i64 kind,b,a] 195)).cell? ⟨w.heap.size,i,none⟩:=fun i=>((Below.refl (w.heap.size+1) _).alloc (by omega) (qS 0 0 0 0)).cell (p:=⟨w.heap.size,i,none⟩) (by simp)
 refine⟨by rw [c];simp,by rw [c];simp,by rw [c];simp,by rw [<- d];exact heap_alloc_new _ _,((Below.refl _ _).alloc (Nat.le_refl _) _).alloc (by omega) _,by simp⟩
theorem PBox.step {w wr e:World} {kind:Int} {d c:Value} (h:PBox w kind d c wr) (a:Below wr.heap.size wr e):PBox w kind d c e:=by
 have b:w.heap.size<wr.heap.size:=by have:=h.lt;omega
 exact⟨(a.cell (p:=⟨w.heap.size,0,none⟩) b).trans h.t0,(a.cell (p:=⟨w.heap.size,1,none⟩) b).trans h.t1,(a.cell (p:=⟨w.heap.size,2,none⟩) b).trans h.t2,by rw [a.block _ h.lt];exact h.arr,h.bl.trans (a.mono h.bl.size),Nat.lt_of_lt_of_le h.lt a.size⟩
theorem PBox.drewN {w wr:World} {kind:Int} {b a:Value} (h:PBox w kind b a wr) (m:Nat):PBox w kind b a (wr.drewN m):=⟨h.t0,h.t1,h.t2,h.arr,⟨h.bl.os,h.bl.tape,h.bl.output,h.bl.size,h.bl.block⟩,h.lt⟩
theorem qT {w:World} {g a b c d:Nat} (h:w.heap[g]? =some (qS a b c d)):(w.cell? ⟨g,0,none⟩=some (.float .f64 a)/\w.cell? ⟨g,1,none⟩=some (.float .f64 b)/\w.cell? ⟨g,2,none⟩=some (.float .f64 c)/\w.cell? ⟨g,3,none⟩=some (.float .f64 d))/\∀ i,w.frozen? ⟨g,i,none⟩=false:=by
 unfold qS at h
 refine⟨⟨?_,?_,?_,?_⟩,fun i=>frozen_of_row w g i _ _ h⟩
 all_goals
  simp only [World.cell?,h,Option.isSome_none,Bool.false_eq_true,if_false]
  rfl
def set4 (w:World) (g a b c d:Nat):World:=(((w.setCell ⟨g,0,none⟩ (.float .f64 a)).setCell ⟨g,1,none⟩ (.float .f64 b)).setCell ⟨g,2,none⟩ (.float .f64 c)).setCell ⟨g,3,none⟩ (.float .f64 d)
theorem au {w:World} {g o:Nat} {cs:Array Value} {t:TypeId} (v:Value) (h:w.heap[g]? =some (.cells cs t (0,0))):(w.setCell ⟨g,o,none⟩ v).heap[g]? =some (.cells (cs.setIfInBounds o v) t (0,0)):=by
 rw [Go.Sort.setCell_eq];simp [Go.Sort.mapBlock,Array.getElem?_modify,h,Go.Sort.onCells]
theorem Kd {w:World} {g a b c d a' b' c' d':Nat} (h:w.heap[g]? =some (qS a b c d)):(set4 w g a' b' c' d').heap[g]? =some (qS a' b' c' d'):=by
 unfold qS at h
 exact au _ (au _ (au _ (au _ h)))
theorem BS (w:World) (g a b c d B:Nat) (e:B<=g):Below B w (set4 w g a b c d):=
 ((((Below.refl B w).setCell (p:=⟨g,0,none⟩) e _).setCell (p:=⟨g,1,none⟩) e _).setCell (p:=⟨g,2,none⟩) e _).setCell (p:=⟨g,3,none⟩) e _
theorem bJ (a:Addr) (x:Nat) (m:Mode) (w:World):(store a (.float .f64 x) m).run Tryz.prog w=stored Tryz.prog w a (.float .f64 x) m:=run_store Tryz.prog w a _ m rfl
theorem yU (kind:Int) (l g cx i f cy n k:Nat) (m s:Int) (y0 y1 h O S H U a0 p F G I q:Nat) (w r:World) (t:(w.alloc (.cells #[.int .i64 kind,.slice (some ⟨l,g,none⟩) n cx,.slice (some ⟨i,f,none⟩) n cy] 195)).alloc (qS 0 0 0 0)=r)
  (o:Hid (PBox w kind (.slice (some ⟨l,g,none⟩) n cx) (.slice (some ⟨i,f,none⟩) n cy) r)) (c0:r.cell? ⟨l,g+k,none⟩=some (.int .i64 m)) (c1:r.cell? ⟨l,g+(k+1),none⟩=some (.int .i64 s)) (c2:r.cell? ⟨i,f+k,none⟩=some (.float .f64 y0)) (c3:r.cell? ⟨i,f+(k+1),none⟩=some (.float .f64 y1))
  (X:k+1<n) (hn:n<=1000) (h0:0<=m) (h1:m<=109572) (h2:0<=s) (h3:s<=109572) (qf:floatOfInt .f64 (s - m)=h)
  (V:floatBits .mul .f64 O h=some H) (K:floatBits .quo .f64 H 4613937818241073152=some U) (L:floatBits .add .f64 y0 U=some a0) (R:floatBits .mul .f64 S h=some F) (M:floatBits .quo .f64 F 4613937818241073152=some G) (Q:floatBits .sub .f64 y1 G=some I)
  (C:Hid (∀ a,Below w.heap.size w a->Calls Tryz.prog 227 #[.agg #[.int .i64 kind,.slice (some ⟨l,g,none⟩) n cx,.slice (some ⟨i,f,none⟩) n cy],.int .i64 (k:Int)] a fun e b=>e=.returned (.float .f64 O)/\Below a.heap.size a b))
  (A:Hid (∀ a,Below w.heap.size w a->Calls Tryz.prog 227 #[.agg #[.int .i64 kind,.slice (some ⟨l,g,none⟩) n cx,.slice (some ⟨i,f,none⟩) n cy],.int .i64 ((k:Int)+1)] a fun e b=>e=.returned (.float .f64 S)/\Below a.heap.size a b))
  (y:Hid (∀ a,Calls Tryz.prog 224 #[.float .f64 a0,.float .f64 y0,.float .f64 y1] a fun e b=>e=.returned (.float .f64 p)/\b=a))
  (E:Hid (∀ a,Calls Tryz.prog 224 #[.float .f64 I,.float .f64 p,.float .f64 y1] a fun e b=>e=.returned (.float .f64 q)/\b=a)) :
  Calls Tryz.prog 221 #[.agg #[.int .i64 kind,.slice (some ⟨l,g,none⟩) n cx,.slice (some ⟨i,f,none⟩) n cy],.int .i64 (k:Int)] w fun e b=>e=.returned (.agg #[.float .f64 y0,.float .f64 p,.float .f64 q,.float .f64 y1])/\Below w.heap.size w b:=by
 have f1:IntKind.i64.wrap ((k:Int)+1)=(k:Int)+1:=by rw [IntKind.wrap_i64];omega
 have f2:IntKind.i64.wrap (s - m)=s - m:=by rw [IntKind.wrap_i64];omega
 have g1:(0:Int)<=(k:Int)+1:=by omega
 have g2:(k:Int)+1<(n:Int):=by omega
 have g3:(0:Int)<=(k:Int):=by omega
 have g4:(k:Int)<(n:Int):=by omega
 have r1:=fun w=>run_float_arith (P:=Tryz.prog) w .mul 27 .f64 _ _ _ V
 have r2:=fun w=>run_float_arith (P:=Tryz.prog) w .quo 27 .f64 _ _ _ K
 have r3:=fun w=>run_float_arith (P:=Tryz.prog) w .add 27 .f64 _ _ _ L
 have r4:=fun w=>run_float_arith (P:=Tryz.prog) w .mul 27 .f64 _ _ _ R
 have r5:=fun w=>run_float_arith (P:=Tryz.prog) w .quo 27 .f64 _ _ _ M
 have r6:=fun w=>run_float_arith (P:=Tryz.prog) w .sub 27 .f64 _ _ _ Q
 have z:=o.out.t0;have B:=o.out.t1;have D:=o.out.t2;clear V K L R M Q;unfold qS at t
 go_enter Tryz.func221,Tryz.ntmps221
 go_wp2_with fail
 clear t
 go_quiet (fail)
 go_wp2_with fail
 go_quiet (fail)
 go_wp2_with fail
 refine (C.out _ (o.out.drewN _).bl).mono ?_
 rintro e w1 ⟨rfl,x⟩;have c:=hideS ((o.out.drewN _).step x);clear x z B D c0 c1 c2 c3 o;have z:=c.out.t0;have B:=c.out.t1;have D:=c.out.t2
 go_wp2_with fail
 refine (y.out _).mono ?_
 rintro e b ⟨rfl,rfl⟩
 go_wp2_with fail
 refine (A.out _ c.out.bl).mono ?_
 rintro e w2 ⟨rfl,u⟩;have j:=hideS (c.out.step u);clear u z B D c
 go_wp2_with fail
 refine (E.out _).mono ?_
 rintro e b ⟨rfl,rfl⟩;obtain⟨⟨c0,c1,c2,c3⟩,fz⟩:=qT j.out.arr;have Y:=bJ;have z0:=fz 0;have z1:=fz 1;have z2:=fz 2;have z3:=fz 3;clear fz
 go_wp2_with fail
 obtain⟨J,d⟩:∃ J,set4 b (w.heap.size+1) y0 p q y1=J:=⟨_,rfl⟩;have T:=hideS (qT (Kd (a':=y0) (b':=p) (c':=q) (d':=y1) j.out.arr)).1;have N:=hideS (j.out.bl.trans (BS b (w.heap.size+1) y0 p q y1 w.heap.size (by omega)))
 rw [d] at T N
 unfold set4 at d
 rw [d];obtain⟨Z,W,v2,v3⟩:=T.out;refine bodyPost_ret (v:=.agg #[.float .f64 y0,.float .f64 p,.float .f64 q,.float .f64 y1]) (by simp [results,Tryz.results221,go_sem,Z,W,v2,v3]) rfl ⟨rfl,N.out⟩
theorem fi3:fi 3=4613937818241073152:=by decide+kernel
theorem BT (kind:Int) (q r:Option Addr) (z D cx E v cy k:Nat) (xs:List Int) (ys:List Nat) (w:World) (h:OkT kind xs ys) (f:TFl w q r z D E v xs ys) (l:k+1<xs.length) :
  Calls Tryz.prog 221 #[.agg #[.int .i64 kind,.slice q xs.length cx,.slice r ys.length cy],.int .i64 (k:Int)] w fun e C=>e=.returned (.agg #[.float .f64 ((ptL xs ys k).getD 0 0),.float .f64 ((ptL xs ys k).getD 1 0),.float .f64 ((ptL xs ys k).getD 2 0),.float .f64 ((ptL xs ys k).getD 3 0)])/\Below w.heap.size w C:=by
 have T:=h.len;have A:=Ns w kind (.slice q xs.length cx) (.slice r ys.length cy);have d:=f.below A.bl;have B:Hid (∀ c,Below w.heap.size w c->∀ j,j<xs.length->Calls Tryz.prog 227 #[.agg #[.int .i64 kind,.slice q xs.length cx,.slice r ys.length cy],.int .i64 (j:Int)] c fun e C=>e=.returned (.float .f64 ((bI xs ys xs.length).getD j 0))/\Below c.heap.size c C):=fun c p j Q=>FP kind q r z D cx E v cy j xs ys c h (f.below p) Q
 obtain rfl:=f.x.at_ (by omega)
 obtain rfl:=f.y.at_ (by omega)
 have V:=h.step l;have L:=ap (h.node k (by omega))
 have N:=ap (h.node (k+1) l);obtain⟨J,n⟩:=iK (m:=xs.getD (k+1) 0 - xs.getD k 0) (by omega) (by omega)
 obtain⟨M,o⟩:=iK (m:=3) (by decide) (by decide)
 have a:=aL h f.u (i:=k) (by omega)
 have b:=aL h f.u l;have U:=gW h f.u k;have R:=gW h f.u (k+1);have H:=jX U J n;have O:=iI H M o;have s:=oT a O;have F:=jX R J n;have G:=iI F M o;have I:=vO b G;have S:NumW (ptP (fi (xs.getD (k+1) 0 - xs.getD k 0)) ((bI xs ys xs.length).getD k 0) (ys.getD k 0) (ys.getD (k+1) 0)):=by
  rcases Int.le_total (ae (ys.getD k 0:Nat)) (ae (ys.getD (k+1) 0:Nat)) with t | t
  ·exact (mV s a b t).1
  ·exact (mW s a b t).1
 have K:=gX O;have P:=gX G;rw [fi3] at K P
 have g:∀ c,Below w.heap.size w c->_:=fun c p=>B.out c p (k+1) l
 rw [Int.natCast_add,Int.natCast_one] at g
 have c0:=d.x.cell k (by omega)
 have c1:=d.x.cell (k+1) l;have c2:=d.y.cell k (by omega)
 have c3:=d.y.cell (k+1) (by omega)
 rw [T] at A B g c0 c1 c2 c3 ⊢
 exact yU kind z D cx E v cy xs.length k _ _ _ _ _ _ _ _ _ _ _ _ _ _ _ w _ rfl A c0 c1 c2 c3 l (by have:=h.hi;omega) L.1 L.2.1 N.1 N.2.1 (bF _)
  (yQ H) K (fi3▸yR s) (yQ F) P (fi3▸yP I) (fun c p=>B.out c p k (by omega)) g (fun c=>fi3▸nj _ _ _ c s.lt a b) (fun c=>fi3▸nj _ _ _ c I.lt S b)
def RowF (w:World) (g N:Nat) (b:List Nat):Prop:=∃ a:Array Value,w.heap[g]? =some (.cells a 27 (0,0))/\a.size=N/\a.toList.take b.length=b.map fV
theorem RowF.stay {w b:World} {g N B:Nat} {a:List Nat} (h:RowF w g N a) (c:Below B w b) (d:g<B):RowF b g N a:=by
 obtain⟨e,i,f⟩:=h;exact⟨e,by rw [c.block g d];exact i,f⟩
theorem RowF.lt {w:World} {g N:Nat} {a:List Nat} (h:RowF w g N a):g<w.heap.size:=by
 obtain⟨c,b,_⟩:=h;exact (Array.getElem?_eq_some_iff.1 b).1
theorem RowF.cell {w:World} {g N:Nat} {a:List Nat} (h:RowF w g N a) {k:Nat} (d:k<N):∃ u,w.cell? ⟨g,k,none⟩=some u:=by
 obtain⟨b,c,e,_⟩:=h;refine⟨b[k]'(by omega),?_⟩
 simp only [World.cell?,c,Option.isSome_none,Bool.false_eq_true,if_false];exact Array.getElem?_eq_getElem (by omega)
theorem RowF.frozen {w:World} {g N:Nat} {a:List Nat} (h:RowF w g N a) (k:Nat):w.frozen? ⟨g,k,none⟩=false:=by
 obtain⟨b,c,_⟩:=h;exact frozen_of_row w g k b _ c
theorem RowF.own {w:World} {g N base:Nat} {a:List Nat} (h:RowF w g N a) (b:a.length=N) (c:base<=g) (i:N<=100000):w.ownsRow base 27 1 (.slice (some ⟨g,0,none⟩) N N) N (a.map fV):=by
 obtain⟨e,f,j,d⟩:=h;refine⟨by rw [List.length_map,b,Nat.mul_one],.inr ⟨g,N,e,rfl,c,f,Nat.le_refl _,by unfold maxLen;omega,by omega,?_⟩⟩
 rw [Nat.mul_one,<- b];exact d
theorem Ke {w:World} {g N k:Nat} {a:List Nat} (d:Nat) (h:RowF w g N (a.take k)) (r:k<N) (i:k<a.length) (e:a.getD k 0=d):RowF (w.setCell ⟨g,k,none⟩ (.float .f64 d)) g N (a.take (k+1)):=by
 obtain⟨q,n,m,f⟩:=h;refine⟨_,au _ n,by simp [m],?_⟩
 have p:(a.take k).length=k:=by simp;omega
 have o:(a.take (k+1)).length=k+1:=by simp;omega
 rw [p] at f
 rw [o];apply List.ext_getElem?;intro j
 by_cases c:j<k+1
 ·rw [List.getElem?_take_of_lt c]
  simp only [Array.getElem?_toList,Array.getElem?_setIfInBounds]
  by_cases b:k=j
  ·subst b;rw [if_pos rfl,if_pos (by omega),List.getElem?_map,List.getElem?_take_of_lt c,List.getElem?_eq_getElem i]
   rw [List.getD_eq_getElem?_getD,List.getElem?_eq_getElem i] at e
   simp only [Option.getD_some] at e
   rw [Option.map_some,e];rfl
  ·rw [if_neg b];have:=congrArg (fun l=>l[j]?) f
   rw [List.getElem?_take_of_lt (by omega),Array.getElem?_toList,List.getElem?_map,List.getElem?_take_of_lt (by omega)] at this
   rw [this,List.getElem?_map,List.getElem?_take_of_lt c]
 ·rw [List.getElem?_eq_none (by simp;omega),List.getElem?_eq_none (by simp;omega)]
theorem FR (w:World) (N:Nat) (z:Array Value):RowF (w.alloc (.cells (madeCells z N) 27)) w.heap.size N []:=
 ⟨_,heap_alloc_new w _,size_madeCells _ _,by simp⟩
theorem nT (l r D a b R:Nat) (w:World) (U:l<=109572) (P:r<=109572) (hD:l+r=D) (m:0<D) (v:NumW a) (q:NumW b) (L:aQ (wAt [(l:Int),(r:Int)] [a,b] 2) D=R) :
  Calls Tryz.prog 220 #[.int .i64 (l:Int),.int .i64 (r:Int),.float .f64 a,.float .f64 b] w fun e W=>e=.returned (.float .f64 R)/\Below w.heap.size w W:=by
 have E:=vN (K:=1074) rfl (a:=(l:Int)) (b:=(r:Int)) ⟨by omega,by omega⟩ ⟨by omega,by omega⟩ v.lt v.nb q.lt q.nb
 have y:(wAt [(l:Int),(r:Int)] [a,b] 2).s=0:=by rw [E]
 have G:A.gS (wAt [(l:Int),(r:Int)] [a,b] 2).N D=R:=by rw [<- L];unfold aQ;rw [if_pos y]
 have J:wAt [(l:Int),(r:Int)] [a,b] 2=((⟨0,0⟩:A.St).merge (A.bn (fi (l:Int)) a)).merge (A.bn (fi (r:Int)) b):=rfl;have M:=aU (kw (n:=(l:Int)) (by omega) (by omega))
 have I:=aU (kw (n:=(r:Int)) (by omega) (by omega))
 have B:=aU v.lt;have C:=aU q.lt;have f1:=bF (l:Int);have f2:=bF (r:Int);have f3:IntKind.i64.wrap ((l:Int)+(r:Int))=(D:Int):=by rw [IntKind.wrap_i64];omega
 clear E L;generalize fi (l:Int)=X at *
 generalize fi (r:Int)=Y at *
 generalize wAt [(l:Int),(r:Int)] [a,b] 2=T at *
 have f:=hideS (A.vE w w.heap.size (Nat.le_refl _));have x:=hideS (And.intro J (And.intro y G));have p:=hideS (And.intro M (And.intro I (And.intro B C)));have t:=hideS (And.intro m (show D<9223372036854775808 by omega))
 clear J y G M I B C v q hD m U P
 go_enter Tryz.func220,Tryz.ntmps220
 go_wp2_with fail
 refine f.out.mono ?_
 rintro e F ⟨rfl,z,H⟩;have o:Hid (A.Run w F w.heap.size (.slice none 0 0) 0 ⟨0,0⟩):=⟨z,H⟩;clear z H f;have g:=hideS (A.gT w.heap.size w.heap.size _ 0 _ X a F o.out.acc o.out.bl.size p.out.1 p.out.2.2.1 (by omega))
 go_wp2_with fail
 refine g.out.mono ?_
 rintro e Z ⟨rfl,O,Q,i⟩;have u:=hideS ((o.out.drewN O).did i);clear i o g;have h:=hideS (A.gT w.heap.size w.heap.size Q _ _ Y b Z u.out.acc u.out.bl.size p.out.2.1 p.out.2.2.2 (by omega))
 go_wp2_with fail
 refine h.out.mono ?_
 rintro e w2 ⟨rfl,S,v2,k⟩;have d:=hideS ((u.out.drewN S).did k);clear k u h;rw [<- x.out.1] at d
 have c:=hideS (A.xX w.heap.size w.heap.size v2 _ T D w2 d.out.acc d.out.bl.size (by omega) t.out.1 t.out.2 x.out.2.1 (A.tW t.out.1 (by have:=t.out.2;omega)))
 rw [x.out.2.2] at c
 go_wp2_with fail
 refine c.out.mono ?_
 rintro e w3 ⟨rfl,j⟩;have V:=hideS (d.out.bl.trans (j.mono d.out.bl.size));clear j d c
 go_wp2_with fail
 go_ret
 exact⟨rfl,V.out⟩
theorem Kl (kind x:Int) (a h:Option Addr) (j p cx d b cy k:Nat) (xs:List Int) (ys:List Nat) (w:World) (hn:ys.length<=256) (g:TFl w a h j p d b xs ys) (l:k<ys.length) :
  Calls Tryz.prog 212 #[.agg #[.int .i64 kind,.slice a xs.length cx,.slice h ys.length cy],.int .i64 (k:Int),.int .i64 x] w fun e o=>e=.returned (.float .f64 (ys.getD k 0))/\Below w.heap.size w o:=by
 have c:=hideS (cH w kind (.slice a xs.length cx) (.slice h ys.length cy));obtain rfl:=g.y.at_ (by omega)
 have c0:(w.alloc (.cells #[.int .i64 kind,.slice a xs.length cx,.slice (some ⟨d,b,none⟩) ys.length cy] 195)).cell? ⟨d,b+k,none⟩=some (.float .f64 (ys.getD k 0)):=(g.below c.out.bl).y.cell k l;have q:=c.out.t2;clear g;generalize ys.getD k 0=y at *
 generalize ys.length=n at *
 generalize xs.length=m at *
 obtain⟨i,f⟩:∃ i,w.alloc (.cells #[.int .i64 kind,.slice a m cx,.slice (some ⟨d,b,none⟩) n cy] 195)=i:=⟨_,rfl⟩;rw [f] at c0 q c
 go_enter Tryz.func212,Tryz.ntmps212
 go_wp2_with fail
 go_ret
 exact⟨rfl,c.out.bl⟩
structure PieR (w:World) (kind:Int) (vx vy:Value) (bx ox b2 oy k:Nat) (x0 x1:Int) (y0 y1:Nat) (wr:World):Prop where
 box:TBox w kind vx vy wr
 a0:wr.cell? ⟨bx,ox+k,none⟩=some (.int .i64 x0)
 a1:wr.cell? ⟨bx,ox+(k+1),none⟩=some (.int .i64 x1)
 b0:wr.cell? ⟨b2,oy+k,none⟩=some (.float .f64 y0)
 b1:wr.cell? ⟨b2,oy+(k+1),none⟩=some (.float .f64 y1)
 lx:bx<wr.heap.size
 ly:b2<wr.heap.size
theorem PieR.step {w wr l:World} {kind:Int} {i g:Value} {d b c e k:Nat} {f j:Int} {y0 y1:Nat} (h:PieR w kind i g d b c e k f j y0 y1 wr) (a:Below wr.heap.size wr l):PieR w kind i g d b c e k f j y0 y1 l:=
 ⟨h.box.step a,(a.cell (p:=⟨d,b+k,none⟩) h.lx).trans h.a0,(a.cell (p:=⟨d,b+(k+1),none⟩) h.lx).trans h.a1,(a.cell (p:=⟨c,e+k,none⟩) h.ly).trans h.b0,(a.cell (p:=⟨c,e+(k+1),none⟩) h.ly).trans h.b1,Nat.lt_of_lt_of_le h.lx a.size,Nat.lt_of_lt_of_le h.ly a.size⟩
theorem PieR.drewN {w wr:World} {kind:Int} {c b:Value} {g d f i k:Nat} {a e:Int} {y0 y1:Nat} (h:PieR w kind c b g d f i k a e y0 y1 wr) (m:Nat):PieR w kind c b g d f i k a e y0 y1 (wr.drewN m):=⟨h.box.drewN m,h.a0,h.a1,h.b0,h.b1,h.lx,h.ly⟩
theorem PieR.drew {w wr:World} {kind:Int} {c b:Value} {g d f i k:Nat} {a e:Int} {y0 y1:Nat} (h:PieR w kind c b g d f i k a e y0 y1 wr):PieR w kind c b g d f i k a e y0 y1 wr.drew:=h.drewN 1
theorem PT {w:World} {kind:Int} {b c:Option Addr} {g e cx f h cy k:Nat} {xs:List Int} {ys:List Nat} (i:TFl w b c g e f h xs ys) (l:ys.length=xs.length) (j:k+1<xs.length) :
  PieR w kind (.slice b xs.length cx) (.slice c ys.length cy) g e f h k (xs.getD k 0) (xs.getD (k+1) 0) (ys.getD k 0) (ys.getD (k+1) 0) (w.alloc (.cells #[.int .i64 kind,.slice b xs.length cx,.slice c ys.length cy] 195)):=by
 have d:=cH w kind (.slice b xs.length cx) (.slice c ys.length cy);have a:=i.below d.bl;exact⟨d,a.x.cell k (by omega),a.x.cell (k+1) j,a.y.cell k (by omega),a.y.cell (k+1) (by omega),a.x.lt (by omega),a.y.lt (by omega)⟩
theorem ze (kind x:Int) (d f cx g c cy n k l r:Nat) (h i:Int) (y0 y1 R:Nat) (w p:World) (m:w.alloc (.cells #[.int .i64 kind,.slice (some ⟨d,f,none⟩) n cx,.slice (some ⟨g,c,none⟩) n cy] 195)=p)
  (a:Hid (PieR w kind (.slice (some ⟨d,f,none⟩) n cx) (.slice (some ⟨g,c,none⟩) n cy) d f g c k h i y0 y1 p)) (t:k+1<n) (hn:n<=1000) (v:i - x=(l:Int)) (q:x - h=(r:Int)) (bl:l<=109572) (G:r<=109572)
  (s:Hid (∀ j,Calls Tryz.prog 220 #[.int .i64 (l:Int),.int .i64 (r:Int),.float .f64 y0,.float .f64 y1] j fun e o=>e=.returned (.float .f64 R)/\Below j.heap.size j o)) :
  Calls Tryz.prog 213 #[.agg #[.int .i64 kind,.slice (some ⟨d,f,none⟩) n cx,.slice (some ⟨g,c,none⟩) n cy],.int .i64 (k:Int),.int .i64 x] w fun e o=>e=.returned (.float .f64 R)/\Below w.heap.size w o:=by
 have I:IntKind.i64.wrap ((k:Int)+1)=(k:Int)+1:=by rw [IntKind.wrap_i64];omega
 have y:IntKind.i64.wrap (i - x)=(l:Int):=by rw [IntKind.wrap_i64];omega
 have H:IntKind.i64.wrap (x - h)=(r:Int):=by rw [IntKind.wrap_i64];omega
 have B:(0:Int)<=(k:Int)+1:=by omega
 have F:(k:Int)+1<(n:Int):=by omega
 have C:(0:Int)<=(k:Int):=by omega
 have E:(k:Int)<(n:Int):=by omega
 have K:=a.out.box.t1;have J:=a.out.box.t2;have z:=a.out.a0;have A:=a.out.a1;have D:=a.out.b0;have M:=a.out.b1;clear v q
 go_enter Tryz.func213,Tryz.ntmps213
 go_wp2_with fail
 clear m
 go_quiet (fail)
 go_wp2_with fail
 go_region_with ((go_at_call 220;refine (s.out _).mono ?_;rintro e L ⟨rfl,b⟩;have u:=hideS ((a.out.drewN _).box.step b).bl;clear b))
 all_goals
  go_wp2_with fail
  go_ret
  exact⟨rfl,u.out⟩
theorem PieR.all {w wr:World} {kind:Int} {e c:Value} {i f a b k:Nat} {d g:Int} {y0 y1:Nat} (h:PieR w kind e c i f a b k d g y0 y1 wr):wr.cell? ⟨w.heap.size,2,none⟩=some c/\wr.cell? ⟨a,b+k,none⟩=some (.float .f64 y0)/\wr.cell? ⟨a,b+(k+1),none⟩=some (.float .f64 y1):=⟨h.box.t2,h.b0,h.b1⟩
theorem BU (kind x:Int) (f g cx d b cy n k l r:Nat) (j o:Int) (y0 y1 K J R E H:Nat) (w A:World) (G:w.alloc (.cells #[.int .i64 kind,.slice (some ⟨f,g,none⟩) n cx,.slice (some ⟨d,b,none⟩) n cy] 195)=A)
  (t:Hid (PieR w kind (.slice (some ⟨f,g,none⟩) n cx) (.slice (some ⟨d,b,none⟩) n cy) f g d b k j o y0 y1 A)) (T:k+1<n) (hn:n<=1000) (W:o - x=(l:Int)) (P:x - j=(r:Int)) (bl:l<=109572) (br:r<=109572)
  (F:Hid (∀ a,Calls Tryz.prog 223 #[.float .f64 y0] a fun e c=>e=.returned (.float .f64 K)/\Below a.heap.size a c))
  (D:Hid (∀ a,Calls Tryz.prog 223 #[.float .f64 y1] a fun e c=>e=.returned (.float .f64 J)/\Below a.heap.size a c))
  (S:Hid (∀ a,Calls Tryz.prog 220 #[.int .i64 (l:Int),.int .i64 (r:Int),.float .f64 K,.float .f64 J] a fun e c=>e=.returned (.float .f64 R)/\Below a.heap.size a c))
  (U:Hid (∀ a,Calls Tryz.prog 54 #[.float .f64 R] a fun e c=>e=.returned (.float .f64 E)/\Below a.heap.size a c))
  (V:Hid (∀ a,Calls Tryz.prog 224 #[.float .f64 E,.float .f64 y0,.float .f64 y1] a fun e c=>e=.returned (.float .f64 H)/\c=a)) :
  Calls Tryz.prog 215 #[.agg #[.int .i64 kind,.slice (some ⟨f,g,none⟩) n cx,.slice (some ⟨d,b,none⟩) n cy],.int .i64 (k:Int),.int .i64 x] w fun e c=>e=.returned (.float .f64 H)/\Below w.heap.size w c:=by
 have f1:IntKind.i64.wrap ((k:Int)+1)=(k:Int)+1:=by rw [IntKind.wrap_i64];omega
 have f2:IntKind.i64.wrap (o - x)=(l:Int):=by rw [IntKind.wrap_i64];omega
 have f3:IntKind.i64.wrap (x - j)=(r:Int):=by rw [IntKind.wrap_i64];omega
 have g1:(0:Int)<=(k:Int)+1:=by omega
 have g2:(k:Int)+1<(n:Int):=by omega
 have g3:(0:Int)<=(k:Int):=by omega
 have g4:(k:Int)<(n:Int):=by omega
 have y:Hid (∀ m,PieR w kind (.slice (some ⟨f,g,none⟩) n cx) (.slice (some ⟨d,b,none⟩) n cy) f g d b k j o y0 y1 (A.drewN m)):=fun m=>t.out.drewN m
 have Y:=t.out.box.t1;have O:=t.out.a0;have Q:=t.out.a1;clear W P
 go_enter Tryz.func215,Tryz.ntmps215
 go_wp2_with fail
 clear G
 go_quiet (fail)
 go_wp2_with fail
 clear Y O Q t;generalize v:A.drewN _=X at *
 have h:Hid (PieR w kind (.slice (some ⟨f,g,none⟩) n cx) (.slice (some ⟨d,b,none⟩) n cy) f g d b k j o y0 y1 X):=by show PieR _ _ _ _ _ _ _ _ _ _ _ _ _ _;rw [<- v];exact y.out _
 clear v y;have M:=h.out.box.t2;have L:=h.out.b0;have N:=h.out.b1
 go_region_held3 (fun x=>x.cell? ⟨w.heap.size,2,none⟩=some (.slice (some ⟨d,b,none⟩) n cy)/\x.cell? ⟨d,b+k,none⟩=some (.float .f64 y0)/\x.cell? ⟨d,b+(k+1),none⟩=some (.float .f64 y1)) (first | exact h.out.all | exact B.out.all | exact C.out.all | exact I.out.all | exact i.out.all | go_keep) (first | ((go_at_call_of 223 (Value.float FloatKind.f64 y0);refine (F.out _).mono ?_;rintro e w2 ⟨rfl,q⟩;have B:=hideS (h.out.drew.step q);clear q)) | ((go_at_call_of 223 (Value.float FloatKind.f64 y1);refine (D.out _).mono ?_;rintro e w3 ⟨rfl,z⟩;have C:=hideS (B.out.step z);clear z)) | ((go_at_call 220;refine (S.out _).mono ?_;rintro e w4 ⟨rfl,p⟩;have I:=hideS (C.out.step p);clear p)) | ((go_at_call 54;refine (U.out _).mono ?_;rintro e Z ⟨rfl,u⟩;have i:=hideS (I.out.step u);clear u)))
 all_goals
  clear M L N;have M:=i.out.box.t2;have L:=i.out.b0;have N:=i.out.b1;have s:=hideS i.out.box.bl;clear h B C I i
  go_wp2_with fail
  go_region_with ((go_at_call 224;refine (V.out _).mono ?_;rintro e w6 ⟨rfl,rfl⟩))
  all_goals
   go_wp2_with fail
   go_ret
   exact⟨rfl,s.out.os,s.out.tape,s.out.output,s.out.size,s.out.block⟩
def jy (a b c d:Int):Obj:=.cells #[.int .i64 a,.int .i64 b,.int .i64 c,.int .i64 d] 248
theorem nU {w:World} {g:Nat} {a b c d:Int} (h:w.heap[g]? =some (jy a b c d)):(w.cell? ⟨g,0,none⟩=some (.int .i64 a)/\w.cell? ⟨g,1,none⟩=some (.int .i64 b)/\w.cell? ⟨g,2,none⟩=some (.int .i64 c)/\w.cell? ⟨g,3,none⟩=some (.int .i64 d))/\∀ i,w.frozen? ⟨g,i,none⟩=false:=by
 unfold jy at h
 refine⟨⟨?_,?_,?_,?_⟩,fun i=>frozen_of_row w g i _ _ h⟩
 all_goals
  simp only [World.cell?,h,Option.isSome_none,Bool.false_eq_true,if_false]
  rfl
def zf (w:World) (g:Nat) (a b c d:Int):World:=(((w.setCell ⟨g,0,none⟩ (.int .i64 a)).setCell ⟨g,1,none⟩ (.int .i64 b)).setCell ⟨g,2,none⟩ (.int .i64 c)).setCell ⟨g,3,none⟩ (.int .i64 d)
theorem tX {w:World} {g:Nat} {a b c d a' b' c' d':Int} (h:w.heap[g]? =some (jy a b c d)):(zf w g a' b' c' d').heap[g]? =some (jy a' b' c' d'):=by
 unfold jy at h
 exact au _ (au _ (au _ (au _ h)))
theorem zg (w:World) (g:Nat) (a b c d:Int) (B:Nat) (e:B<=g):Below B w (zf w g a b c d):=
 ((((Below.refl B w).setCell (p:=⟨g,0,none⟩) e _).setCell (p:=⟨g,1,none⟩) e _).setCell (p:=⟨g,2,none⟩) e _).setCell (p:=⟨g,3,none⟩) e _
theorem FW {w wr d:World} {b:Nat} {v:Value} {L:Nat} {a:A.St} (h:A.Run w wr b v L a) (c:Below wr.heap.size wr d):A.Run w d b v L a:=⟨h.acc.below c,h.bl.trans (c.mono h.bl.size)⟩
theorem wu (a b c d:Nat) (w:World):(Instr.index 249 (.agg #[.float .f64 a,.float .f64 b,.float .f64 c,.float .f64 d]) (.int .i64 0)).run Tryz.prog w=.ok (.float .f64 a) w/\(Instr.index 249 (.agg #[.float .f64 a,.float .f64 b,.float .f64 c,.float .f64 d]) (.int .i64 1)).run Tryz.prog w=.ok (.float .f64 b) w/\(Instr.index 249 (.agg #[.float .f64 a,.float .f64 b,.float .f64 c,.float .f64 d]) (.int .i64 2)).run Tryz.prog w=.ok (.float .f64 c) w/\(Instr.index 249 (.agg #[.float .f64 a,.float .f64 b,.float .f64 c,.float .f64 d]) (.int .i64 3)).run Tryz.prog w=.ok (.float .f64 d) w:=by
 refine⟨?_,?_,?_,?_⟩ <;>kernel_rfl
structure CubR (g:Nat) (ws:List Int) (ps:List Nat) (k:Nat) (q:Int) (c:Nat):Prop where
 f:floatOfInt .f64 q=fi q
 nx:wAt ws ps (k+1)=(wAt ws ps k).merge (A.bn (fi q) c)
 u:U64 (fi q:Nat)
 v:U64 (c:Nat)
theorem BV (kind x:Int) (L I cx J H cy n k D D3:Nat) (x0 x1 i e q1 y r1 r2 q s2 r t1 t n1:Int) (y0 y1 a b c d R:Nat) (w w0:World) (ca:w.alloc (.cells #[.int .i64 kind,.slice (some ⟨L,I,none⟩) n cx,.slice (some ⟨J,H,none⟩) n cy] 195)=w0)
  (HB:Hid (PieR w kind (.slice (some ⟨L,I,none⟩) n cx) (.slice (some ⟨J,H,none⟩) n cy) L I J H k x0 x1 y0 y1 w0)) (ct:k+1<n) (hn:n<=1000) (he:x1 - x=e) (hi:x - x0=i) (hD:e+i=(D:Int)) (db:0<=e) (cq:e<=109572) (i0:0<=i) (i1:i<=109572) (cp:(D:Int)<=109572) (hC:CubW (D:Int) i e q1 y r1 r2 q s2 r t1 t n1 (D3:Int)) (bh:1<=D3) (na:NumW a) (nb:NumW b) (nc:NumW c) (nd:NumW d) (hR:aQ (wAt [y,q,r,t] [a,b,c,d] 4) D3=R)
  (HP:Hid (∀ wx,Below w.heap.size w wx->Calls Tryz.prog 221 #[.agg #[.int .i64 kind,.slice (some ⟨L,I,none⟩) n cx,.slice (some ⟨J,H,none⟩) n cy],.int .i64 (k:Int)] wx fun e w'=>e=.returned (.agg #[.float .f64 a,.float .f64 b,.float .f64 c,.float .f64 d])/\Below wx.heap.size wx w')) :
  Calls Tryz.prog 214 #[.agg #[.int .i64 kind,.slice (some ⟨L,I,none⟩) n cx,.slice (some ⟨J,H,none⟩) n cy],.int .i64 (k:Int),.int .i64 x] w fun e w'=>e=.returned (.float .f64 R)/\Below w.heap.size w w':=by
 obtain⟨cf,bs,ci,bi,bo,cl,bk,cd,cc,am,al,⟨p1,cu⟩,⟨p2,dg⟩,⟨p3,da⟩,⟨p4,cs⟩,⟨p5,dc⟩,⟨p6,cm⟩,⟨p7,cv⟩,⟨p8,dd⟩,⟨p9,cr⟩,⟨W,E⟩,⟨Z,B⟩⟩:=hC;have h4:=yj (K:=1074) rfl (a:=y) (b:=q) (c:=r) (d:=t) ⟨by omega,by omega⟩ ⟨by omega,by omega⟩ ⟨by omega,by omega⟩ ⟨by omega,by omega⟩ na.lt na.nb nb.lt nb.nb nc.lt nc.nb nd.lt nd.nb
 have hs:(wAt [y,q,r,t] [a,b,c,d] 4).s=0:=by rw [h4]
 have hO:A.gS (wAt [y,q,r,t] [a,b,c,d] 4).N D3=R:=by rw [<- hR];unfold aQ;rw [if_pos hs]
 have C0:Hid (CubR 0 [y,q,r,t] [a,b,c,d] 0 y a):=⟨bF _,rfl,aU (kw (by omega) (by omega)),aU na.lt⟩
 have C1:Hid (CubR 0 [y,q,r,t] [a,b,c,d] 1 q b):=⟨bF _,rfl,aU (kw (by omega) (by omega)),aU nb.lt⟩
 have C2:Hid (CubR 0 [y,q,r,t] [a,b,c,d] 2 r c):=⟨bF _,rfl,aU (kw (by omega) (by omega)),aU nc.lt⟩
 have C3:Hid (CubR 0 [y,q,r,t] [a,b,c,d] 3 t d):=⟨bF _,rfl,aU (kw (by omega) (by omega)),aU nd.lt⟩
 have hz:wAt [y,q,r,t] [a,b,c,d] 0=⟨0,0⟩:=rfl;obtain⟨F,hF⟩:∃ F,wAt [y,q,r,t] [a,b,c,d]=F:=⟨_,rfl⟩;have P:=hideS (And.intro hs (And.intro hO (And.intro bh (show D3<9223372036854775808 by omega))))
 rw [hF] at P
 have HZ:=hideS hz;rw [hF] at HZ
 have f1:IntKind.i64.wrap ((k:Int)+1)=(k:Int)+1:=by rw [IntKind.wrap_i64];omega
 have f2:IntKind.i64.wrap (x1 - x)=e:=by rw [IntKind.wrap_i64];omega
 have f3:IntKind.i64.wrap (x - x0)=i:=by rw [IntKind.wrap_i64];omega
 have g1:(0:Int)<=(k:Int)+1:=by omega
 have g2:(k:Int)+1<(n:Int):=by omega
 have g3:(0:Int)<=(k:Int):=by omega
 have g4:(k:Int)<(n:Int):=by omega
 have as:Hid (∀ m,PieR w kind (.slice (some ⟨L,I,none⟩) n cx) (.slice (some ⟨J,H,none⟩) n cy) L I J H k x0 x1 y0 y1 (w0.drewN m)):=fun m=>HB.out.drewN m
 have u1:=HB.out.box.t1;have a0:=HB.out.a0;have a1:=HB.out.a1;have HQ:=hideS (And.intro am (And.intro al (And.intro W (And.intro E (And.intro Z B)))));clear he hi hs hO hR h4 na nb nc nd hz am al W E Z B bh
 go_enter Tryz.func214,Tryz.ntmps214
 go_wp2_with fail
 clear ca
 go_quiet (fail)
 clear u1 a0 a1 HB f1 f2 f3;generalize ad:w0.drewN _=o at *
 have K0:Hid (PieR w kind (.slice (some ⟨L,I,none⟩) n cx) (.slice (some ⟨J,H,none⟩) n cy) L I J H k x0 x1 y0 y1 o):=by show PieR _ _ _ _ _ _ _ _ _ _ _ _ _ _;rw [<- ad];exact as.out _
 clear ad as;have HA:=hideS (show (o.alloc (jy 0 0 0 0)).heap[o.heap.size]? =some (jy 0 0 0 0) from heap_alloc_new o _)
 obtain⟨⟨c0,c1,c2,c3⟩,fz⟩:=nU HA.out;have z0:=fz 0;have z1:=fz 1;have z2:=fz 2;have z3:=fz 3;have HL:=hideS (((Below.refl o.heap.size o).alloc (Nat.le_refl _) (jy 0 0 0 0)).trans (zg _ o.heap.size y q r t o.heap.size (Nat.le_refl _)));have HY:=hideS (nU (tX (a':=y) (b':=q) (c':=r) (d':=t) HA.out)).1;have HG:Hid (o.heap.size<(zf (o.alloc (jy 0 0 0 0)) o.heap.size y q r t).heap.size):=(Array.getElem?_eq_some_iff.1 (tX (a':=y) (b':=q) (c':=r) (d':=t) HA.out)).1
 clear fz HA;obtain⟨w2,Q⟩:∃ w2,o.alloc (jy 0 0 0 0)=w2:=⟨_,rfl⟩;rw [Q] at c0 c1 c2 c3 z0 z1 z2 z3 HL HY HG
 unfold jy at Q
 obtain⟨g,T⟩:∃ g,zf w2 o.heap.size y q r t=g:=⟨_,rfl⟩;rw [T] at HL HY HG
 unfold zf at T
 have ba:=hideS (A.vE g g.heap.size (Nat.le_refl _));have K3:=hideS (K0.out.step HL.out);have ai:Hid (w.heap.size<=g.heap.size/\Below w.heap.size w g):=⟨K3.out.box.bl.size,K3.out.box.bl⟩;clear HL K0
 go_wp2_with fail
 clear Q T c0 c1 c2 c3 z0 z1 z2 z3 cf bs ci bi bo cl bk cd cc;refine ba.out.mono ?_
 rintro er w4 ⟨rfl,ac,bc⟩;have R0:Hid (A.Run g w4 g.heap.size (.slice none 0 0) (72*0) (F 0)):=by show A.Run _ _ _ _ _ _;rw [HZ.out];exact⟨ac,bc⟩
 have K4:=hideS (K3.out.step bc);clear ac bc ba K3;have u0:=K4.out.box.t0;have u1:=K4.out.box.t1;have u2:=K4.out.box.t2
 go_wp2_with fail
 refine (HP.out _ K4.out.box.bl).mono ?_
 rintro er w5 ⟨rfl,ab⟩;have R1:=hideS (FW R0.out ab);clear ab u0 u1 u2 K4 R0 HP;have HF:=hideS hF;have HX:Hid (w.heap.size<=g.heap.size/\Below w.heap.size w g):=ai;clear hF HZ ai
 go_wp2_with fail
 go_loopw [12,13,61] (fun _ _ i z=>∃ k:Nat,k<=4/\i=.int .i64 k/\Hid (∃ v,A.Run g z g.heap.size v (72*k) (F k))) (fun _ _ i _=>4 - (intOf i).toNat)
 case atStart=>exact⟨0,Nat.zero_le _,rfl,⟨_,R1.out⟩⟩
 case round=>
  clear R1;obtain⟨k,hk,rfl,HR⟩:=hrel;obtain⟨v,h⟩:=HR.out
  by_cases df:k<4
  ·rcases (show k=0\/k=1\/k=2\/k=3 by omega) with rfl | rfl | rfl | rfl
   ·have hc:z.cell? ⟨o.heap.size,0,none⟩=some (.int .i64 y):=(h.bl.cell (p:=⟨o.heap.size,0,none⟩) HG.out).trans HY.out.1;have hf:=C0.out.f;have U:=(wu a b c d z).1;have C:=hideS C0.out.nx;rw [HF.out] at C
    have l:=hideS (A.gT g.heap.size g.heap.size v (72*0) _ (fi y) a z h.acc h.bl.size C0.out.u C0.out.v (by omega))
    have G:=hideS h;generalize fi y=X at *
    clear h HR
    go_wp2_with fail
    refine l.out.mono ?_
    rintro er M ⟨rfl,V,S,j⟩;have Y:Hid (∃ v,A.Run g M g.heap.size v (72*1) (F 1)):=⟨S,by rw [C.out];exact ((G.out.drewN V).did j).mono (by omega)⟩
    clear j l G
    go_wp2_with fail
    go_roundw
    case rel=>exact⟨1,by omega,by simp,Y⟩
    case measure=>simp [intOf]
   ·have hc:z.cell? ⟨o.heap.size,1,none⟩=some (.int .i64 q):=(h.bl.cell (p:=⟨o.heap.size,1,none⟩) HG.out).trans HY.out.2.1;have hf:=C1.out.f;have U:=(wu a b c d z).2.1;have C:=hideS C1.out.nx;rw [HF.out] at C
    have l:=hideS (A.gT g.heap.size g.heap.size v (72*1) _ (fi q) b z h.acc h.bl.size C1.out.u C1.out.v (by omega))
    have G:=hideS h;generalize fi q=X at *
    clear h HR
    go_wp2_with fail
    refine l.out.mono ?_
    rintro er M ⟨rfl,V,S,j⟩;have Y:Hid (∃ v,A.Run g M g.heap.size v (72*2) (F 2)):=⟨S,by rw [C.out];exact ((G.out.drewN V).did j).mono (by omega)⟩
    clear j l G
    go_wp2_with fail
    go_roundw
    case rel=>exact⟨2,by omega,by simp,Y⟩
    case measure=>simp [intOf]
   ·have hc:z.cell? ⟨o.heap.size,2,none⟩=some (.int .i64 r):=(h.bl.cell (p:=⟨o.heap.size,2,none⟩) HG.out).trans HY.out.2.2.1;have hf:=C2.out.f;have U:=(wu a b c d z).2.2.1;have C:=hideS C2.out.nx;rw [HF.out] at C
    have l:=hideS (A.gT g.heap.size g.heap.size v (72*2) _ (fi r) c z h.acc h.bl.size C2.out.u C2.out.v (by omega))
    have G:=hideS h;generalize fi r=X at *
    clear h HR
    go_wp2_with fail
    refine l.out.mono ?_
    rintro er M ⟨rfl,V,S,j⟩;have Y:Hid (∃ v,A.Run g M g.heap.size v (72*3) (F 3)):=⟨S,by rw [C.out];exact ((G.out.drewN V).did j).mono (by omega)⟩
    clear j l G
    go_wp2_with fail
    go_roundw
    case rel=>exact⟨3,by omega,by simp,Y⟩
    case measure=>simp [intOf]
   ·have hc:z.cell? ⟨o.heap.size,3,none⟩=some (.int .i64 t):=(h.bl.cell (p:=⟨o.heap.size,3,none⟩) HG.out).trans HY.out.2.2.2;have hf:=C3.out.f;have U:=(wu a b c d z).2.2.2;have C:=hideS C3.out.nx;rw [HF.out] at C
    have l:=hideS (A.gT g.heap.size g.heap.size v (72*3) _ (fi t) d z h.acc h.bl.size C3.out.u C3.out.v (by omega))
    have G:=hideS h;generalize fi t=X at *
    clear h HR
    go_wp2_with fail
    refine l.out.mono ?_
    rintro er M ⟨rfl,V,S,j⟩;have Y:Hid (∃ v,A.Run g M g.heap.size v (72*4) (F 4)):=⟨S,by rw [C.out];exact ((G.out.drewN V).did j).mono (by omega)⟩
    clear j l G
    go_wp2_with fail
    go_roundw
    case rel=>exact⟨4,by omega,by simp,Y⟩
    case measure=>simp [intOf]
  ·obtain rfl:k=4:=by omega
   have O:=hideS (A.xX g.heap.size g.heap.size v (72*4) (F 4) D3 z h.acc h.bl.size (by omega) P.out.2.2.1 P.out.2.2.2 P.out.1 (A.tW P.out.2.2.1 (by have:=P.out.2.2.2;omega)))
   rw [P.out.2.1] at O
   have bv:=hideS (HX.out.2.trans (h.bl.mono HX.out.1));have br:=hideS (Nat.le_trans HX.out.1 h.bl.size);obtain⟨m1,m2,W,E,Z,B⟩:=HQ.out;clear h HR
   go_wp2_with fail
   refine O.out.mono ?_
   rintro er M ⟨rfl,bb⟩;have bz:=hideS (bv.out.trans (bb.mono br.out));clear bb O
   go_wp2_with fail
   go_ret
   exact⟨rfl,bz.out⟩
noncomputable def Km (kind:Int) (xs:List Int) (ys:List Nat) (k D:Nat) (i:Int):Nat:=if kind=1 then ys.getD k 0 else if kind=2 then linV ys k D i else if kind=3 then Bu (ptL xs ys k) D i else logV lnW exW ys k D i
theorem Nu {kind:Int} {xs:List Int} {ys:List Nat} {k:Nat} (h:OkT kind xs ys) (g:∀ i<ys.length,U64 (ys.getD i 0:Nat)) (j:k+1<xs.length):∃ a b c d,ptL xs ys k=[a,b,c,d]/\NumW a/\NumW b/\NumW c/\NumW d:=by
 rcases Int.le_total (ae (ys.getD k 0:Nat)) (ae (ys.getD (k+1) 0:Nat)) with f | f
 ·obtain⟨p,q,e,u⟩:=Kf h g j f;exact⟨_,_,_,_,e,u.n0,u.n1,u.n2,u.n3⟩
 ·obtain⟨p,q,e,u⟩:=yY h g j f;exact⟨_,_,_,_,e,u.n0,u.n1,u.n2,u.n3⟩
theorem zh {y:Nat} (h:NumW y) (i:ltB 0 (y:Nat)=true) (w:World):Calls Tryz.prog 223 #[.float .f64 y] w fun e a=>e=.returned (.float .f64 (lnW y))/\Below w.heap.size w a:=by
 obtain⟨j,f⟩:=iJ h.lt i;obtain⟨z,e,k⟩:=(jv h.lt).fin h.nb f j;refine ((jv h.lt).prog w).mono fun l a ⟨r,c,g,b⟩=>⟨?_,b⟩
 rw [c];have d:lnW y=z:=by unfold lnW;rw [if_pos h.lt,e,ao]
 rw [e] at g
 rw [d,cz g.1]
theorem Ko {y:Nat} (a:y<18446744073709551616) (hn:ah (y:Int)=false) (w:World):Calls Tryz.prog 54 #[.float .f64 y] w fun e b=>e=.returned (.float .f64 (exW y))/\Below w.heap.size w b:=by
 obtain⟨z,e,h⟩:=(ck a).num hn;refine ((ck a).prog w).mono fun i b ⟨r,d,g,c⟩=>⟨?_,c⟩
 rw [d];have f:exW y=z:=by unfold exW;rw [if_pos a,e,ao]
 rw [e] at g
 rw [f,cz g.1]
theorem FX (kind x:Int) (B F:Option Addr) (t z cx A s cy k D:Nat) (i:Int) (xs:List Int) (ys:List Nat) (w:World) (h:OkT kind xs ys) (m:TFl w B F t z A s xs ys) (v:Inside xs x k D i) :
  Calls Tryz.prog (iZ kind) #[.agg #[.int .i64 kind,.slice B xs.length cx,.slice F ys.length cy],.int .i64 (k:Int),.int .i64 x] w fun e Q=>e=.returned (.float .f64 (Km kind xs ys k D i))/\Below w.heap.size w Q:=by
 have j:=v.lt;have L:=h.len;have hh:=h.hi;have E:=eH h v;have i0:=v.lo;have i1:=v.hi';have e1:=v.hD;have e2:=v.hi;have I:=aL h m.u (show k<xs.length by omega)
 have M:=aL h m.u j;have P:=PT (kind:=kind) (cx:=cx) (cy:=cy) m L j;have p:=m.x.at_ (by omega)
 have n:=m.y.at_ (by omega)
 obtain⟨l,q⟩:∃ l:Nat,(D:Int) - i=(l:Int):=⟨((D:Int) - i).toNat,by omega⟩
 obtain⟨r,o⟩:∃ r:Nat,i=(r:Int):=⟨i.toNat,by omega⟩
 unfold iZ Km;have k1:=h.k1;have k4:=h.k4
 by_cases G:kind=1
 ·rw [if_pos G,if_pos G];exact Kl kind x B F t z cx A s cy k xs ys w (by omega) m (by omega)
 ·rw [if_neg G,if_neg G]
  by_cases J:kind=2
  ·rw [if_pos J,if_pos J];subst p n;rw [L] at P ⊢
   refine ze kind x t z cx A s cy xs.length k l r _ _ _ _ _ w _ rfl P j (by omega) (by omega) (by omega) (by omega) (by omega) (fun f=>nT l r D _ _ _ f (by omega) (by omega) (by omega) (by omega) I M ?_)
   unfold linV;rw [q,o]
  ·rw [if_neg J,if_neg J]
   by_cases H:kind=3
   ·rw [if_pos H,if_pos H];obtain⟨a,b,c,d,U,na,nb,nc,nd⟩:=Nu h m.u j;obtain⟨w1,X,r1,r2,Z,s2,s3,t1,t2,W,Y,g⟩:=vJ (D:=(D:Int)) (i:=i) (e:=(D:Int) - i) (by omega) (by omega) (by omega) (by omega) (by omega) E.2
    have R:Y=((D*D*D:Nat):Int):=by rw [<- g.hn2,<- g.hn1];simp
    rw [R] at g
    have S:Hid (∀ f,Below w.heap.size w f->Calls Tryz.prog 221 #[.agg #[.int .i64 kind,.slice B xs.length cx,.slice F ys.length cy],.int .i64 (k:Int)] f fun e Q=>e=.returned (.agg #[.float .f64 a,.float .f64 b,.float .f64 c,.float .f64 d])/\Below f.heap.size f Q):=fun f hb=>by
     have:=BT kind B F t z cx A s cy k xs ys f h (m.below hb) j;rw [U] at this
     exact this
    subst p n;rw [L] at P S ⊢
    refine BV kind x t z cx A s cy xs.length k D (D*D*D) _ _ i ((D:Int) - i) w1 X r1 r2 Z s2 s3 t1 t2 W _ _ a b c d _ w _ rfl P j (by omega) (by omega) (by omega) (by omega) (by omega) (by omega) (by omega) (by omega) E.2 g (Nat.mul_pos (Nat.mul_pos E.1 E.1) E.1) na nb nc nd ?_ S
    unfold Bu;rw [U,<- g.hq2,<- g.hq1,<- g.hr3,<- g.hr2,<- g.hr1,<- g.hs3,<- g.hs2,<- g.hr1,<- g.ht2,<- g.ht1]
   ·rw [if_neg H,if_neg H];obtain rfl:kind=4:=by omega
    have T:=(ap (h.node k (by omega))).2.2.2.2 rfl
    have V:=(ap (h.node (k+1) j)).2.2.2.2 rfl;have O:=jZ I T;have N:=jZ M V;have hv:linV [lnW (ys.getD k 0),lnW (ys.getD (k+1) 0)] 0 D i=aQ (wAt [(D:Int) - i,i] [lnW (ys.getD k 0),lnW (ys.getD (k+1) 0)] 2) D:=rfl;have C:aQ (wAt [(D:Int) - i,i] [lnW (ys.getD k 0),lnW (ys.getD (k+1) 0)] 2) D<18446744073709551616/\ah (aQ (wAt [(D:Int) - i,i] [lnW (ys.getD k 0),lnW (ys.getD (k+1) 0)] 2) D:Nat)=false:=by
     rw [vN (K:=1074) rfl ⟨by omega,by omega⟩ ⟨by omega,by omega⟩ O.lt O.nb N.lt N.nb,kQ]
     exact⟨by have:=(cD (((D:Int) - i)*uI 1074 (lnW (ys.getD k 0))+i*uI 1074 (lnW (ys.getD (k+1) 0))) D).1.2;omega,(cD _ D).2.1⟩
    subst p n;rw [L] at P ⊢
    refine BU 4 x t z cx A s cy xs.length k l r _ _ _ _ (lnW (ys.getD k 0)) (lnW (ys.getD (k+1) 0)) _ (exW (aQ (wAt [(l:Int),(r:Int)] [lnW (ys.getD k 0),lnW (ys.getD (k+1) 0)] 2) D)) _ w _ rfl P j (by omega) (by omega) (by omega) (by omega) (by omega) (fun f=>zh I T f) (fun f=>zh M V f) (fun f=>nT l r D _ _ _ f (by omega) (by omega) (by omega) (by omega) O N rfl) ?_ ?_
    ·rw [<- q,<- o];exact fun f=>Ko C.1 C.2 f
    ·rw [<- q,<- o];exact fun f=>nj _ _ _ f (Kg _) I M
theorem FY (kind x E:Int) (F c g:Value) (w:World) (i:E≠0) (j:Hid (∀ b,Below w.heap.size w b->Calls Tryz.prog 178 #[.agg #[.int .i64 kind,c,g]] b fun e d=>e=.returned (.tuple #[F,.int .i64 E])/\Below b.heap.size b d)) :
  Calls Tryz.prog 160 #[.agg #[.int .i64 kind,c,g],.int .i64 x] w fun e d=>e=.returned (.tuple #[.float .f64 0,.int .i64 E])/\Below w.heap.size w d:=by
 have h:=hideS (cH w kind c g);have k:(E !=0)=true:=bne_iff_ne.2 i;clear i
 go_enter Tryz.func160,Tryz.ntmps160
 go_wp2_with fail
 refine (j.out _ h.out.bl).mono ?_
 rintro e l ⟨rfl,a⟩;have f:=hideS (h.out.step a);clear a
 go_wp2_with fail
 go_ret2
 exact⟨rfl,f.out.bl⟩
theorem FZ (kind x k E:Int) (F g i:Value) (w:World) (l:E≠0) (m:Hid (∀ a,Below w.heap.size w a->Calls Tryz.prog 178 #[.agg #[.int .i64 kind,g,i]] a fun e f=>e=.returned (.tuple #[F,.int .i64 0])/\Below a.heap.size a f))
  (o:Hid (∀ a,Below w.heap.size w a->Calls Tryz.prog 179 #[g,.int .i64 x] a fun e f=>e=.returned (.tuple #[.int .i64 k,.int .i64 E])/\Below a.heap.size a f)) :
  Calls Tryz.prog 160 #[.agg #[.int .i64 kind,g,i],.int .i64 x] w fun e f=>e=.returned (.tuple #[.float .f64 0,.int .i64 E])/\Below w.heap.size w f:=by
 have j:=hideS (cH w kind g i);have n:(E !=0)=true:=bne_iff_ne.2 l;clear l
 go_enter Tryz.func160,Tryz.ntmps160
 go_wp2_with fail
 refine (m.out _ j.out.bl).mono ?_
 rintro e q ⟨rfl,d⟩;have b:=hideS (j.out.step d);clear d;have p:=b.out.t1
 go_wp2_with fail
 refine (o.out _ b.out.bl).mono ?_
 rintro e r ⟨rfl,c⟩;have h:=hideS (b.out.step c);clear c p
 go_wp2_with fail
 go_ret2
 exact⟨rfl,h.out.bl⟩
theorem Kp (kind x f:Int) (F:Nat) (g h cx o j cy n k y V:Nat) (w:World) (B:F=212\/F=213\/F=214\/F=215) (G:k<n) (C:n<=256) (t:f=x->V=y)
  (z:Hid (∀ a,Below w.heap.size w a->Calls Tryz.prog 178 #[.agg #[.int .i64 kind,.slice (some ⟨g,h,none⟩) n cx,.slice (some ⟨o,j,none⟩) n cy]] a fun e d=>e=.returned (.tuple #[.func (.func F) #[] #[],.int .i64 0])/\Below a.heap.size a d))
  (H:Hid (∀ a,Below w.heap.size w a->Calls Tryz.prog 179 #[.slice (some ⟨g,h,none⟩) n cx,.int .i64 x] a fun e d=>e=.returned (.tuple #[.int .i64 (k:Int),.int .i64 0])/\Below a.heap.size a d))
  (D:Hid (∀ a,Below w.heap.size w a->a.cell? ⟨g,h+k,none⟩=some (.int .i64 f)/\a.cell? ⟨o,j+k,none⟩=some (.float .f64 y)))
  (A:Hid (f≠x->∀ a,Below w.heap.size w a->Calls Tryz.prog F #[.agg #[.int .i64 kind,.slice (some ⟨g,h,none⟩) n cx,.slice (some ⟨o,j,none⟩) n cy],.int .i64 (k:Int),.int .i64 x] a fun e d=>e=.returned (.float .f64 V)/\Below a.heap.size a d)) :
  Calls Tryz.prog 160 #[.agg #[.int .i64 kind,.slice (some ⟨g,h,none⟩) n cx,.slice (some ⟨o,j,none⟩) n cy],.int .i64 x] w fun e d=>e=.returned (.tuple #[.float .f64 V,.int .i64 0])/\Below w.heap.size w d:=by
 have s:=hideS (cH w kind (.slice (some ⟨g,h,none⟩) n cx) (.slice (some ⟨o,j,none⟩) n cy));have E:=hideS t;clear t;rcases B with rfl | rfl | rfl | rfl
 all_goals
  go_enter Tryz.func160,Tryz.ntmps160
  go_wp2_with fail
  refine (z.out _ s.out.bl).mono ?_
  rintro e I ⟨rfl,m⟩;have c:=hideS (s.out.step m);clear m;have u:=c.out.t1
  go_wp2_with fail
  refine (H.out _ c.out.bl).mono ?_
  rintro e L ⟨rfl,l⟩;have b:=hideS (c.out.step l);clear l u;have J:=b.out.t0;have u:=b.out.t1;have K:=b.out.t2;obtain⟨c0,c1⟩:=D.out _ b.out.bl
  by_cases i:f=x
  ·have v:(f==x)=true:=beq_iff_eq.2 i;obtain rfl:=E.out i;clear i
   go_wp2_with fail
   go_ret2
   exact⟨rfl,b.out.bl⟩
  ·have v:(f==x)=false:=beq_eq_false_iff_ne.2 i;have r:=hideS (A.out i);clear i
   go_wp2_with fail
   refine (r.out _ b.out.bl).mono ?_
   rintro e M ⟨rfl,p⟩;have q:=hideS (b.out.step p);clear p
   go_wp2_with fail
   go_ret2
   exact⟨rfl,q.out.bl⟩
inductive AtO (kind:Int) (xs:List Int) (ys:List Nat) (x:Int):Nat->Int->Prop
 | err (k E:Int) (h:FindO kind xs ys x k E) (hE:E≠0):AtO kind xs ys x 0 E
 | node (k:Nat) (ok:OkT kind xs ys) (h:FindO kind xs ys x (k:Int) 0) (hk:FindR xs x k) (he:xs.getD k 0=x):AtO kind xs ys x (ys.getD k 0) 0
 | piece (k D:Nat) (i:Int) (ok:OkT kind xs ys) (h:FindO kind xs ys x (k:Int) 0) (hk:FindR xs x k) (he:xs.getD k 0≠x) (hI:Inside xs x k D i):AtO kind xs ys x (Km kind xs ys k D i) 0
theorem PU (kind:Int) (xs:List Int) (ys:List Nat) (x:Int):∃ V E,AtO kind xs ys x V E:=by
 obtain⟨k,E,h⟩:=Hi kind xs ys x
 by_cases a:E=0
 ·subst a;generalize g:(0:Int)=z at h
  have f:=h;cases h with
  | bad E h a=>exact absurd g.symm a
  | out h n=>cases g
  | at_ e l d k c m=>
   by_cases b:xs.getD k 0=x
   ·exact⟨_,_,.node k e f c b⟩
   ·obtain⟨D,i,j⟩:=Fq d c b;exact⟨_,_,.piece k D i e f c b j⟩
 ·exact⟨_,_,.err k E h a⟩
theorem zj (kind:Int):iZ kind=212\/iZ kind=213\/iZ kind=214\/iZ kind=215:=by
 unfold iZ
 split
 ·exact .inl rfl
 ·split
  ·exact .inr (.inl rfl)
  ·split
   ·exact .inr (.inr (.inl rfl))
   ·exact .inr (.inr (.inr rfl))
theorem Ga (kind x E:Int) (V:Nat) (f g:Option Addr) (o p cx q n cy:Nat) (xs:List Int) (ys:List Nat) (w:World) (h:AtO kind xs ys x V E) (l:TFl w f g o p q n xs ys) :
  Calls Tryz.prog 160 #[.agg #[.int .i64 kind,.slice f xs.length cx,.slice g ys.length cy],.int .i64 x] w fun e m=>e=.returned (.tuple #[.float .f64 V,.int .i64 E])/\Below w.heap.size w m:=by
 have v:∀ E,TabR kind xs ys E->∀ a,Below w.heap.size w a->Calls Tryz.prog 178 #[.agg #[.int .i64 kind,.slice f xs.length cx,.slice g ys.length cy]] a fun e m=>e=.returned (.tuple #[chF kind E,.int .i64 E])/\Below a.heap.size a m:=fun E L a d=>BO kind E f g o p cx q n cy xs ys a L (l.below d)
 have s:∀ k V,OkT kind xs ys->FindO kind xs ys x ((k:Nat):Int) 0->k<xs.length->(xs.getD k 0=x->V=ys.getD k 0)->(xs.getD k 0≠x->∀ a,Below w.heap.size w a->Calls Tryz.prog (iZ kind) #[.agg #[.int .i64 kind,.slice f xs.length cx,.slice g ys.length cy],.int .i64 (k:Int),.int .i64 x] a fun e m=>e=.returned (.float .f64 V)/\Below a.heap.size a m)->Calls Tryz.prog 160 #[.agg #[.int .i64 kind,.slice f xs.length cx,.slice g ys.length cy],.int .i64 x] w fun e m=>e=.returned (.tuple #[.float .f64 V,.int .i64 0])/\Below w.heap.size w m:=fun k V b H j I z=>by
  have r:=v 0 (.ok b);have K:=fun a (d:Below w.heap.size w a)=>nS kind x k 0 f g o p cx q n xs ys a b H (l.below d)
  have F:=fun a (d:Below w.heap.size w a)=>And.intro ((l.below d).x.cell k j) ((l.below d).y.cell k (by rw [b.len];exact j))
  have A:=b.len;obtain rfl:=l.x.at_ (by omega)
  obtain rfl:=l.y.at_ (by omega)
  rw [A] at r z ⊢
  exact Kp kind x _ (iZ kind) o p cx q n cy xs.length k _ V w (zj kind) j b.hi I r K F z
 cases h with
 | err k E h u=>
  have B:=h;cases h with
  | bad E h u=>exact FY kind x E _ _ _ w u (v E h)
  | out b N=>exact FZ kind x 0 51 _ _ _ w (by decide) (v 0 (.ok b)) (fun a d=>nS kind x 0 51 f g o p cx q n xs ys a b B (l.below d))
  | at_ b G J k j M=>exact absurd rfl u
 | node k b h j t=>exact s k _ b h j.lt (fun _=>rfl) (fun c=>absurd t c)
 | piece k D i b h j t C=>exact s k _ b h j.lt (fun c=>absurd c t) (fun _ a d=>FX kind x f g o p cx q n cy k D i xs ys a b (l.below d) C)
theorem PV {kind x:Int} {V:Nat} {xs:List Int} {ys:List Nat} (h:AtO kind xs ys x V 0) (l:kind≠4):∃ k:Nat,OkT kind xs ys/\FindO kind xs ys x (k:Int) 0/\FindR xs x k/\AtR xs ys kind x k V:=by
 generalize g:(0:Int)=z at h
 cases h with
 | err k E h j=>exact absurd g.symm j
 | node k a h e c=>exact⟨k,a,h,e,.node kind x k c⟩
 | piece k D i a h e c f=>
  refine⟨k,a,h,e,?_⟩
  have n:=a.k1;have m:=a.k4;unfold Km
  by_cases b:kind=1
  ·rw [if_pos b];subst b;exact .flat x k c
  ·rw [if_neg b]
   by_cases d:kind=2
   ·rw [if_pos d];subst d;exact .lin x k D i f
   ·rw [if_neg d,if_pos (show kind=3 by omega)]
    obtain rfl:kind=3:=by omega
    exact .cub x k D i f
theorem zk {kind x:Int} {V:Nat} {xs:List Int} {ys:List Nat} (h:AtO kind xs ys x V 0) (l:∀ i<ys.length,U64 (ys.getD i 0:Nat)):∃ k:Nat,OkT kind xs ys/\FindO kind xs ys x (k:Int) 0/\k<xs.length/\V<18446744073709551616/\ah (V:Nat)=false/\(k+1<xs.length->min (ae (ys.getD k 0:Nat)) (ae (ys.getD (k+1) 0:Nat))<=ae (V:Nat)/\ae (V:Nat)<=max (ae (ys.getD k 0:Nat)) (ae (ys.getD (k+1) 0:Nat)))/\(¬ k+1<xs.length->ae (V:Nat)=ae (ys.getD k 0:Nat)):=by
 by_cases p:kind=4
 ·subst p;generalize t:(0:Int)=z at h
  cases h with
  | err k E h u=>exact absurd t.symm u
  | node k f h g s=>
   have q:=aL f l g.lt;exact⟨k,f,h,g.lt,q.lt,q.nn.nan,fun _=>⟨by omega,by omega⟩,fun _=>rfl⟩
  | piece k D i f h g s r=>
   obtain⟨a,b,c,d⟩:=Kh f l r;exact⟨k,f,h,g.lt,b,a,fun _=>⟨c,d⟩,fun c=>absurd r.lt c⟩
 ·obtain⟨k,f,o,g,m⟩:=PV h p
  by_cases j:k+1<xs.length
  ·rcases Int.le_total (ae (ys.getD k 0:Nat)) (ae (ys.getD (k+1) 0:Nat)) with n | n
   ·obtain⟨a,b,c,d⟩:=qU f l g.lt m (fun _=>n)
    have:=d j;exact⟨k,f,o,g.lt,by have:=a.2;omega,b,fun _=>⟨by omega,by omega⟩,fun c=>absurd j c⟩
   ·obtain⟨a,b,c,d⟩:=lY f l g.lt m (fun _=>n)
    have:=d j;exact⟨k,f,o,g.lt,by have:=a.2;omega,b,fun _=>⟨by omega,by omega⟩,fun c=>absurd j c⟩
  ·obtain⟨a,b,c,d⟩:=qU f l g.lt m (fun e=>absurd e j)
   obtain⟨v,w,A,y⟩:=lY f l g.lt m (fun e=>absurd e j)
   exact⟨k,f,o,g.lt,by have:=a.2;omega,b,fun e=>absurd e j,fun _=>by omega⟩
theorem Kq {a b:Nat} (f:a<18446744073709551616) (c:b<18446744073709551616) (d:ah (a:Nat)=false) (e:ah (b:Nat)=false):((FloatKind.f64.format.order a b==some .lt)||(FloatKind.f64.format.order a b==some .eq))=decide (ae (a:Nat)<=ae (b:Nat)):=by
 rw [jK (aU f) (aU c) d e,eU (aU f) (aU c) d e];generalize ae (a:Nat)=r;generalize ae (b:Nat)=s
 by_cases i:r<s<;>by_cases h:r=s<;>by_cases g:r<=s<;>simp [i,h,g]<;>omega
inductive FacO (base kind:Int) (ds:List Int) (fs:List Nat) (n:Int):Nat->Int->Prop
 | bad (E:Int) (h:CurR base kind ds fs E) (hE:E≠0):FacO base kind ds fs n 0 E
 | ok (h:OkV base kind ds fs) (V:Nat) (E:Int) (hA:AtO kind (ctX base ds) (ctY fs) n V E):FacO base kind ds fs n V E
theorem ww (base kind:Int) (a:List Int) (b:List Nat) (n:Int):∃ V E,FacO base kind a b n V E:=by
 obtain⟨E,h⟩:=oX base kind a b
 by_cases c:E=0
 ·subst c;obtain⟨V,E,d⟩:=PU kind (ctX base a) (ctY b) n;exact⟨V,E,.ok (ka h) V E d⟩
 ·exact⟨0,E,.bad E h c⟩
theorem oY (base:Int) (a:List Int):(ctX base a).length=a.length+1:=rfl
theorem wD (a:List Nat):(ctY a).length=a.length+1:=rfl
theorem kS (a:List Nat) (i:Nat):(ctY a).getD i 0=prvF a i:=by cases i<;>rfl
theorem Ks {a:List Nat} (b:∀ i<a.length,a.getD i 0<18446744073709551616):∀ i<(ctY a).length,(ctY a).getD i 0<18446744073709551616:=fun i hi=>by
 cases i with
 | zero=>exact (by decide:(4607182418800017408:Nat)<18446744073709551616)
 | succ i=>exact b i (by rw [wD] at hi;omega)
theorem OK {a:List Nat} (b:∀ i<a.length,a.getD i 0<18446744073709551616):∀ i<(ctY a).length,U64 ((ctY a).getD i 0:Nat):=fun i hi=>aU (Ks b i hi)
theorem Kt {base kind:Int} {a:List Int} {d:List Nat} (m:OkV base kind a d) {i:Nat} (hi:i<=a.length):AtO kind (ctX base a) (ctY d) (dA base a i) (prvF d i) 0:=by
 have b:=m.table;have g:=oY base a;have c:∀ j,(ctX base a).getD j 0=dA base a j:=BW base a;have le:∀ j k,j<=k->k<=a.length->dA base a j<=dA base a k:=fun j k f e=>by
  rcases Nat.lt_or_eq_of_le f with h | h
  ·have:=b.rise h (by omega)
   rw [c,c] at this;omega
  ·rw [h];exact Int.le_refl _
 have e:FindR (ctX base a) (dA base a i) i:=⟨by omega,by rw [c];exact Int.le_refl _,fun h=>by
  have:=b.step h;rw [c] at this;exact this⟩
 have:=AtO.node (kind:=kind) (ys:=ctY d) i b (.at_ b (by rw [c];exact le 0 i (Nat.zero_le _) hi) (by rw [c,g,Nat.add_sub_cancel];exact le i _ hi (Nat.le_refl _)) i e (fun j l=>⟨by omega,by rw [c];exact le (j+1) i l hi⟩)) e (c i)
 rw [kS] at this
 exact this
theorem jz {base kind:Int} {b:List Int} {a:List Nat} (c:OkV base kind b a):∀ i≤b.length,0<ae (prvF a i:Nat)/\ah (prvF a i:Nat)=false
 | 0,_=>by
  show 0<ae (4607182418800017408:Nat)/\ah (4607182418800017408:Nat)=false
  exact⟨by decide,by decide⟩
 | i+1,hi=>by
  have h:=(co (c.node i (by omega))).2.2.2
  show 0<ae (a.getD i 0:Nat)/\ah (a.getD i 0:Nat)=false
  unfold ltB at h
  simp only [Bool.and_eq_true,Bool.not_eq_true',decide_eq_true_eq] at h
  have d:ae 0=0:=by decide
  exact⟨by rw [<- d];exact h.2,h.1.2⟩
theorem Gb {base kind:Int} {c:List Int} {a:List Nat} (b:OkV base kind c a) (h:nV a=true):∀ i<c.length,ae (prvF a (i+1):Nat)<=ae (prvF a i:Nat):=fun i hi=>by
 have d:=Kr a;rw [h] at d
 cases d with
 | yes f=>
  have:=f i (by rw [b.len];exact hi)
  have p:=jz b i (by omega)
  have q:=jz b (i+1) (by omega)
  have e:ltB (prvF a i:Nat) (prvF a (i+1):Nat)=false:=this;rw [aA p.2 q.2,decide_eq_false_iff_not] at e
  omega
theorem qW {base kind:Int} {b:List Int} {a:List Nat} (c:OkV base kind b a) (h:nV a=true):∀ i≤b.length,ae (prvF a i:Nat)<=ae (4607182418800017408:Nat)
 | 0,_=>Int.le_refl _
 | i+1,hi=>Int.le_trans (Gb c h i (by omega)) (qW c h i (by omega))
theorem DT {base kind a:Int} {g:List Int} {b:List Nat} {W:Nat} (e:OkV base kind g b) (n:∀ i<b.length,b.getD i 0<18446744073709551616) (h:AtO kind (ctX base g) (ctY b) a W 0):W<18446744073709551616/\ah (W:Nat)=false/\0<ae (W:Nat)/\(nV b=true->ae (W:Nat)<=ae (4607182418800017408:Nat)):=by
 obtain⟨k,_,_,o,m,l,f,d⟩:=zk h (OK n);rw [oY] at o f d
 rw [kS,kS] at f
 rw [kS] at d
 have p:=jz e k (by omega)
 refine⟨m,l,?_,fun j=>?_⟩
 ·by_cases c:k+1<g.length+1
  ·have:=(f c).1;have q:=jz e (k+1) (by omega)
   omega
  ·have:=d c;omega
 ·have r:=qW e j k (by omega)
  by_cases c:k+1<g.length+1
  ·have:=(f c).2;have q:=qW e j (k+1) (by omega)
   omega
  ·have:=d c;omega
end Go.Proofs.YtfdddijdjpijbaaGreat
