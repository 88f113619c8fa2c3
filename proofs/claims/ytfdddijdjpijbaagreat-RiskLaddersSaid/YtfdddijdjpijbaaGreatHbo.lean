/-  -/
import Derived.Test.YtfdddijdjpijbaaGreatHbn
import Derived.Test.YtfdddijdjpijbaaGreatHau
import Derived.Laws.MakeOwn
import Derived.Sort.Row
import Derived.Test.YtfdddijdjpijbaaGreatHbm
import Derived.Test.YtfdddijdjpijbaaGreatHbk
import Derived.Test.YtfdddijdjpijbaaGreatHbj
import Derived.Test.YtfdddijdjpijbaaGreatHbl
import Derived.Test.YtfdddijdjpijbaaGreatHas
set_option maxHeartbeats 12800000
set_option maxRecDepth 20000
namespace Go.Proofs.YtfdddijdjpijbaaGreat
open Go.RowKit
def qF (a b c d:Nat):Obj:=.cells #[.float .f64 a,.float .f64 b,.float .f64 c,.float .f64 d] 249
structure PBox (w:World) (kind:Int) (vx vy:Value) (wr:World):Prop where
 t0:wr.cell? ⟨w.heap.size,0,none⟩=some (.int .i64 kind)
 t1:wr.cell? ⟨w.heap.size,1,none⟩=some vx
 t2:wr.cell? ⟨w.heap.size,2,none⟩=some vy
 arr:wr.heap[w.heap.size+1]? =some (qF 0 0 0 0)
 bl:Below w.heap.size w wr
 lt:w.heap.size+1<wr.heap.size
theorem MN (w:World) (kind:Int) (a b:Value):PBox w kind a b ((w.alloc (.cells #[.int .i64 kind,a,b] 195)).alloc (qF 0 0 0 0)):=by
 have d:(w.alloc (.cells #[.int .i64 kind,a,b] 195)).heap.size=w.heap.size+1:=by simp
 have c:∀ i,((w.alloc (.cells #[.int .i64 kind,a,b] 195)).alloc (qF 0 0 0 0)).cell? ⟨w.heap.size,i,none⟩=(w.alloc (.cells #[.int .i64 kind,a,b] 195)).cell? ⟨w.heap.size,i,none⟩:=fun i=>((Below.refl (w.heap.size+1) _).alloc (by omega) (qF 0 0 0 0)).cell (p:=⟨w.heap.size,i,none⟩) (by simp)
 refine⟨by rw [c];simp,by rw [c];simp,by rw [c];simp,by rw [<- d];exact heap_alloc_new _ _,((Below.refl _ _).alloc (Nat.le_refl _) _).alloc (by omega) _,by simp⟩
theorem PBox.step {w wr d:World} {kind:Int} {e c:Value} (h:PBox w kind e c wr) (a:Below wr.heap.size wr d):PBox w kind e c d:=by
 have b:w.heap.size<wr.heap.size:=by have:=h.lt;omega
 exact⟨(a.cell (p:=⟨w.heap.size,0,none⟩) b).trans h.t0,(a.cell (p:=⟨w.heap.size,1,none⟩) b).trans h.t1,(a.cell (p:=⟨w.heap.size,2,none⟩) b).trans h.t2,by rw [a.block _ h.lt];exact h.arr,h.bl.trans (a.mono h.bl.size),Nat.lt_of_lt_of_le h.lt a.size⟩
theorem PBox.drewN {w wr:World} {kind:Int} {a b:Value} (h:PBox w kind a b wr) (m:Nat):PBox w kind a b (wr.drewN m):=⟨h.t0,h.t1,h.t2,h.arr,⟨h.bl.os,h.bl.tape,h.bl.output,h.bl.size,h.bl.block⟩,h.lt⟩
theorem qG {w:World} {g a b c d:Nat} (h:w.heap[g]? =some (qF a b c d)):(w.cell? ⟨g,0,none⟩=some (.float .f64 a)/\w.cell? ⟨g,1,none⟩=some (.float .f64 b)/\w.cell? ⟨g,2,none⟩=some (.float .f64 c)/\w.cell? ⟨g,3,none⟩=some (.float .f64 d))/\∀ i,w.frozen? ⟨g,i,none⟩=false:=by
 unfold qF at h
 refine⟨⟨?_,?_,?_,?_⟩,fun i=>frozen_of_row w g i _ _ h⟩
 all_goals
  simp only [World.cell?,h,Option.isSome_none,Bool.false_eq_true,if_false]
  rfl
def set4 (w:World) (g a b c d:Nat):World:=(((w.setCell ⟨g,0,none⟩ (.float .f64 a)).setCell ⟨g,1,none⟩ (.float .f64 b)).setCell ⟨g,2,none⟩ (.float .f64 c)).setCell ⟨g,3,none⟩ (.float .f64 d)
theorem av {w:World} {g o:Nat} {cs:Array Value} {t:TypeId} (v:Value) (h:w.heap[g]? =some (.cells cs t (0,0))):(w.setCell ⟨g,o,none⟩ v).heap[g]? =some (.cells (cs.setIfInBounds o v) t (0,0)):=by
 rw [Go.Sort.setCell_eq];simp [Go.Sort.mapBlock,Array.getElem?_modify,h,Go.Sort.onCells]
theorem Jz {w:World} {g a b c d a' b' c' d':Nat} (h:w.heap[g]? =some (qF a b c d)):(set4 w g a' b' c' d').heap[g]? =some (qF a' b' c' d'):=by
 unfold qF at h
 exact av _ (av _ (av _ (av _ h)))
theorem Bs (w:World) (g a b c d B:Nat) (e:B<=g):Below B w (set4 w g a b c d):=
 ((((Below.refl B w).setCell (p:=⟨g,0,none⟩) e _).setCell (p:=⟨g,1,none⟩) e _).setCell (p:=⟨g,2,none⟩) e _).setCell (p:=⟨g,3,none⟩) e _
theorem cg (a:Addr) (x:Nat) (m:Mode) (w:World):(store a (.float .f64 x) m).run Tryz.prog w=stored Tryz.prog w a (.float .f64 x) m:=run_store Tryz.prog w a _ m rfl
theorem yx (kind:Int) (d i cx f g cy n k:Nat) (o s:Int) (y0 y1 h O N Q F a0 p L U J q:Nat) (w r:World) (t:(w.alloc (.cells #[.int .i64 kind,.slice (some ⟨d,i,none⟩) n cx,.slice (some ⟨f,g,none⟩) n cy] 195)).alloc (qF 0 0 0 0)=r)
  (m:Hid (PBox w kind (.slice (some ⟨d,i,none⟩) n cx) (.slice (some ⟨f,g,none⟩) n cy) r)) (c0:r.cell? ⟨d,i+k,none⟩=some (.int .i64 o)) (c1:r.cell? ⟨d,i+(k+1),none⟩=some (.int .i64 s)) (c2:r.cell? ⟨f,g+k,none⟩=some (.float .f64 y0)) (c3:r.cell? ⟨f,g+(k+1),none⟩=some (.float .f64 y1))
  (X:k+1<n) (hn:n<=1000) (h0:0<=o) (h1:o<=109572) (h2:0<=s) (h3:s<=109572) (qf:floatOfInt .f64 (s - o)=h)
  (K:floatBits .mul .f64 O h=some Q) (G:floatBits .quo .f64 Q 4613937818241073152=some F) (S:floatBits .add .f64 y0 F=some a0) (H:floatBits .mul .f64 N h=some L) (R:floatBits .quo .f64 L 4613937818241073152=some U) (I:floatBits .sub .f64 y1 U=some J)
  (y:Hid (∀ a,Below w.heap.size w a->Calls Tryz.prog 227 #[.agg #[.int .i64 kind,.slice (some ⟨d,i,none⟩) n cx,.slice (some ⟨f,g,none⟩) n cy],.int .i64 (k:Int)] a fun e c=>e=.returned (.float .f64 O)/\Below a.heap.size a c))
  (D:Hid (∀ a,Below w.heap.size w a->Calls Tryz.prog 227 #[.agg #[.int .i64 kind,.slice (some ⟨d,i,none⟩) n cx,.slice (some ⟨f,g,none⟩) n cy],.int .i64 ((k:Int)+1)] a fun e c=>e=.returned (.float .f64 N)/\Below a.heap.size a c))
  (C:Hid (∀ a,Calls Tryz.prog 224 #[.float .f64 a0,.float .f64 y0,.float .f64 y1] a fun e c=>e=.returned (.float .f64 p)/\c=a))
  (B:Hid (∀ a,Calls Tryz.prog 224 #[.float .f64 J,.float .f64 p,.float .f64 y1] a fun e c=>e=.returned (.float .f64 q)/\c=a)) :
  Calls Tryz.prog 221 #[.agg #[.int .i64 kind,.slice (some ⟨d,i,none⟩) n cx,.slice (some ⟨f,g,none⟩) n cy],.int .i64 (k:Int)] w fun e c=>e=.returned (.agg #[.float .f64 y0,.float .f64 p,.float .f64 q,.float .f64 y1])/\Below w.heap.size w c:=by
 have f1:IntKind.i64.wrap ((k:Int)+1)=(k:Int)+1:=by rw [IntKind.wrap_i64];omega
 have f2:IntKind.i64.wrap (s - o)=s - o:=by rw [IntKind.wrap_i64];omega
 have g1:(0:Int)<=(k:Int)+1:=by omega
 have g2:(k:Int)+1<(n:Int):=by omega
 have g3:(0:Int)<=(k:Int):=by omega
 have g4:(k:Int)<(n:Int):=by omega
 have r1:=fun w=>run_float_arith (P:=Tryz.prog) w .mul 27 .f64 _ _ _ K
 have r2:=fun w=>run_float_arith (P:=Tryz.prog) w .quo 27 .f64 _ _ _ G
 have r3:=fun w=>run_float_arith (P:=Tryz.prog) w .add 27 .f64 _ _ _ S
 have r4:=fun w=>run_float_arith (P:=Tryz.prog) w .mul 27 .f64 _ _ _ H
 have r5:=fun w=>run_float_arith (P:=Tryz.prog) w .quo 27 .f64 _ _ _ R
 have r6:=fun w=>run_float_arith (P:=Tryz.prog) w .sub 27 .f64 _ _ _ I
 have E:=m.out.t0;have A:=m.out.t1;have z:=m.out.t2;clear K G S H R I;unfold qF at t
 go_enter Tryz.func221,Tryz.ntmps221
 go_wp2_with fail
 clear t
 go_quiet (fail)
 go_wp2_with fail
 go_quiet (fail)
 go_wp2_with fail
 refine (y.out _ (m.out.drewN _).bl).mono ?_
 rintro e w1 ⟨rfl,u⟩;have b:=hideS ((m.out.drewN _).step u);clear u E A z c0 c1 c2 c3 m;have E:=b.out.t0;have A:=b.out.t1;have z:=b.out.t2
 go_wp2_with fail
 refine (C.out _).mono ?_
 rintro e c ⟨rfl,rfl⟩
 go_wp2_with fail
 refine (D.out _ b.out.bl).mono ?_
 rintro e w2 ⟨rfl,x⟩;have l:=hideS (b.out.step x);clear x E A z b
 go_wp2_with fail
 refine (B.out _).mono ?_
 rintro e c ⟨rfl,rfl⟩;obtain⟨⟨c0,c1,c2,c3⟩,fz⟩:=qG l.out.arr;have Y:=cg;have z0:=fz 0;have z1:=fz 1;have z2:=fz 2;have z3:=fz 3;clear fz
 go_wp2_with fail
 obtain⟨V,j⟩:∃ V,set4 c (w.heap.size+1) y0 p q y1=V:=⟨_,rfl⟩;have M:=hideS (qG (Jz (a':=y0) (b':=p) (c':=q) (d':=y1) l.out.arr)).1;have T:=hideS (l.out.bl.trans (Bs c (w.heap.size+1) y0 p q y1 w.heap.size (by omega)))
 rw [j] at M T
 unfold set4 at j
 rw [j];obtain⟨W,v1,v2,Z⟩:=M.out;refine bodyPost_ret (v:=.agg #[.float .f64 y0,.float .f64 p,.float .f64 q,.float .f64 y1]) (by simp [results,Tryz.results221,go_sem,W,v1,v2,Z]) rfl ⟨rfl,T.out⟩
theorem fi3:fi 3=4613937818241073152:=by decide+kernel
theorem Bt (kind:Int) (r q:Option Addr) (v z cx C t cy k:Nat) (xs:List Int) (ys:List Nat) (w:World) (h:OkT kind xs ys) (f:TFl w r q v z C t xs ys) (l:k+1<xs.length) :
  Calls Tryz.prog 221 #[.agg #[.int .i64 kind,.slice r xs.length cx,.slice q ys.length cy],.int .i64 (k:Int)] w fun e B=>e=.returned (.agg #[.float .f64 ((ptL xs ys k).getD 0 0),.float .f64 ((ptL xs ys k).getD 1 0),.float .f64 ((ptL xs ys k).getD 2 0),.float .f64 ((ptL xs ys k).getD 3 0)])/\Below w.heap.size w B:=by
 have T:=h.len;have D:=MN w kind (.slice r xs.length cx) (.slice q ys.length cy);have d:=f.below D.bl;have A:Hid (∀ c,Below w.heap.size w c->∀ j,j<xs.length->Calls Tryz.prog 227 #[.agg #[.int .i64 kind,.slice r xs.length cx,.slice q ys.length cy],.int .i64 (j:Int)] c fun e B=>e=.returned (.float .f64 ((bG xs ys xs.length).getD j 0))/\Below c.heap.size c B):=fun c n j Q=>Fi kind r q v z cx C t cy j xs ys c h (f.below n) Q
 obtain rfl:=f.x.at_ (by omega)
 obtain rfl:=f.y.at_ (by omega)
 have V:=h.step l;have F:=aq (h.node k (by omega))
 have P:=aq (h.node (k+1) l);obtain⟨O,o⟩:=iD (m:=xs.getD (k+1) 0 - xs.getD k 0) (by omega) (by omega)
 obtain⟨N,p⟩:=iD (m:=3) (by decide) (by decide)
 have a:=aN h f.u (i:=k) (by omega)
 have b:=aN h f.u l;have U:=gK h f.u k;have R:=gK h f.u (k+1);have G:=jO U O o;have K:=iB G N p;have s:=oF a K;have H:=jO R O o;have J:=iB H N p;have L:=vj b J;have S:NumW (ptP (fi (xs.getD (k+1) 0 - xs.getD k 0)) ((bG xs ys xs.length).getD k 0) (ys.getD k 0) (ys.getD (k+1) 0)):=by
  rcases Int.le_total (ae (ys.getD k 0:Nat)) (ae (ys.getD (k+1) 0:Nat)) with E | E
  ·exact (mM s a b E).1
  ·exact (mN s a b E).1
 have M:=gL K;have I:=gL J;rw [fi3] at M I
 have g:∀ c,Below w.heap.size w c->_:=fun c n=>A.out c n (k+1) l
 rw [Int.natCast_add,Int.natCast_one] at g
 have c0:=d.x.cell k (by omega)
 have c1:=d.x.cell (k+1) l;have c2:=d.y.cell k (by omega)
 have c3:=d.y.cell (k+1) (by omega)
 rw [T] at D A g c0 c1 c2 c3 ⊢
 exact yx kind v z cx C t cy xs.length k _ _ _ _ _ _ _ _ _ _ _ _ _ _ _ w _ rfl D c0 c1 c2 c3 l (by have:=h.hi;omega) F.1 F.2.1 P.1 P.2.1 (bE _)
  (yt G) M (fi3▸yu s) (yt H) I (fi3▸yr L) (fun c n=>A.out c n k (by omega)) g (fun c=>fi3▸mU _ _ _ c s.lt a b) (fun c=>fi3▸mU _ _ _ c L.lt S b)
def RowF (w:World) (g N:Nat) (b:List Nat):Prop:=∃ a:Array Value,w.heap[g]? =some (.cells a 27 (0,0))/\a.size=N/\a.toList.take b.length=b.map fV
theorem RowF.stay {w a:World} {g N B:Nat} {b:List Nat} (h:RowF w g N b) (f:Below B w a) (i:g<B):RowF a g N b:=by
 obtain⟨c,d,e⟩:=h;exact⟨c,by rw [f.block g i];exact d,e⟩
theorem RowF.lt {w:World} {g N:Nat} {a:List Nat} (h:RowF w g N a):g<w.heap.size:=by
 obtain⟨c,b,_⟩:=h;exact (Array.getElem?_eq_some_iff.1 b).1
theorem RowF.cell {w:World} {g N:Nat} {b:List Nat} (h:RowF w g N b) {k:Nat} (e:k<N):∃ u,w.cell? ⟨g,k,none⟩=some u:=by
 obtain⟨a,c,d,_⟩:=h;refine⟨a[k]'(by omega),?_⟩
 simp only [World.cell?,c,Option.isSome_none,Bool.false_eq_true,if_false];exact Array.getElem?_eq_getElem (by omega)
theorem RowF.frozen {w:World} {g N:Nat} {b:List Nat} (h:RowF w g N b) (k:Nat):w.frozen? ⟨g,k,none⟩=false:=by
 obtain⟨a,c,_⟩:=h;exact frozen_of_row w g k a _ c
theorem RowF.own {w:World} {g N base:Nat} {a:List Nat} (h:RowF w g N a) (b:a.length=N) (f:base<=g) (i:N<=100000):w.ownsRow base 27 1 (.slice (some ⟨g,0,none⟩) N N) N (a.map fV):=by
 obtain⟨c,d,j,e⟩:=h;refine⟨by rw [List.length_map,b,Nat.mul_one],.inr ⟨g,N,c,rfl,f,d,Nat.le_refl _,by unfold maxLen;omega,by omega,?_⟩⟩
 rw [Nat.mul_one,<- b];exact e
theorem JA {w:World} {g N k:Nat} {a:List Nat} (d:Nat) (h:RowF w g N (a.take k)) (q:k<N) (i:k<a.length) (e:a.getD k 0=d):RowF (w.setCell ⟨g,k,none⟩ (.float .f64 d)) g N (a.take (k+1)):=by
 obtain⟨r,o,n,f⟩:=h;refine⟨_,av _ o,by simp [n],?_⟩
 have m:(a.take k).length=k:=by simp;omega
 have p:(a.take (k+1)).length=k+1:=by simp;omega
 rw [m] at f
 rw [p];apply List.ext_getElem?;intro j
 by_cases c:j<k+1
 ·rw [List.getElem?_take_of_lt c]
  simp only [Array.getElem?_toList,Array.getElem?_setIfInBounds]
  by_cases b:k=j
  ·subst b;rw [if_pos rfl,if_pos (by omega),List.getElem?_map,List.getElem?_take_of_lt c,List.getElem?_eq_getElem i]
   rw [List.getD_eq_getElem?_getD,List.getElem?_eq_getElem i] at e
   simp only [Option.getD_some] at e
   rw [Option.map_some,e];rfl
  ·rw [if_neg b];have:=congrArg (fun l=>l[j]?) f
   rw [List.getElem?_take_of_lt (by omega),Array.getElem?_toList,List.getElem?_map,List.getElem?_take_of_lt (by omega)] at this
   rw [this,List.getElem?_map,List.getElem?_take_of_lt c]
 ·rw [List.getElem?_eq_none (by simp;omega),List.getElem?_eq_none (by simp;omega)]
theorem Fk (w:World) (N:Nat) (z:Array Value):RowF (w.alloc (.cells (madeCells z N) 27)) w.heap.size N []:=
 ⟨_,heap_alloc_new w _,size_madeCells _ _,by simp⟩
theorem nK (l r D a b R:Nat) (w:World) (W:l<=109572) (hr:r<=109572) (hD:l+r=D) (f:0<D) (t:NumW a) (v:NumW b) (L:aR (wAt [(l:Int),(r:Int)] [a,b] 2) D=R) :
  Calls Tryz.prog 220 #[.int .i64 (l:Int),.int .i64 (r:Int),.float .f64 a,.float .f64 b] w fun e U=>e=.returned (.float .f64 R)/\Below w.heap.size w U:=by
 have z:=vh (K:=1074) rfl (a:=(l:Int)) (b:=(r:Int)) ⟨by omega,by omega⟩ ⟨by omega,by omega⟩ t.lt t.nb v.lt v.nb
 have y:(wAt [(l:Int),(r:Int)] [a,b] 2).s=0:=by rw [z]
 have C:A.gG (wAt [(l:Int),(r:Int)] [a,b] 2).N D=R:=by rw [<- L];unfold aR;rw [if_pos y]
 have I:wAt [(l:Int),(r:Int)] [a,b] 2=((⟨0,0⟩:A.St).merge (A.bn (fi (l:Int)) a)).merge (A.bn (fi (r:Int)) b):=rfl;have H:=aU (kn (n:=(l:Int)) (by omega) (by omega))
 have E:=aU (kn (n:=(r:Int)) (by omega) (by omega))
 have B:=aU t.lt;have F:=aU v.lt;have f1:=bE (l:Int);have f2:=bE (r:Int);have f3:IntKind.i64.wrap ((l:Int)+(r:Int))=(D:Int):=by rw [IntKind.wrap_i64];omega
 clear z L;generalize fi (l:Int)=X at *
 generalize fi (r:Int)=Y at *
 generalize wAt [(l:Int),(r:Int)] [a,b] 2=T at *
 have k:=hideS (A.uT w w.heap.size (Nat.le_refl _));have x:=hideS (And.intro I (And.intro y C));have p:=hideS (And.intro H (And.intro E (And.intro B F)));have u:=hideS (And.intro f (show D<9223372036854775808 by omega))
 clear I y C H E B F t v hD f W hr
 go_enter Tryz.func220,Tryz.ntmps220
 go_wp2_with fail
 refine k.out.mono ?_
 rintro e J ⟨rfl,G,M⟩;have o:Hid (A.Run w J w.heap.size (.slice none 0 0) 0 ⟨0,0⟩):=⟨G,M⟩;clear G M k;have g:=hideS (A.gH w.heap.size w.heap.size _ 0 _ X a J o.out.acc o.out.bl.size p.out.1 p.out.2.2.1 (by omega))
 go_wp2_with fail
 refine g.out.mono ?_
 rintro e Z ⟨rfl,V,Q,m⟩;have q:=hideS ((o.out.drewN V).did m);clear m o g;have i:=hideS (A.gH w.heap.size w.heap.size Q _ _ Y b Z q.out.acc q.out.bl.size p.out.2.1 p.out.2.2.2 (by omega))
 go_wp2_with fail
 refine i.out.mono ?_
 rintro e P ⟨rfl,q2,O,j⟩;have d:=hideS ((q.out.drewN q2).did j);clear j q i;rw [<- x.out.1] at d
 have c:=hideS (A.xC w.heap.size w.heap.size O _ T D P d.out.acc d.out.bl.size (by omega) u.out.1 u.out.2 x.out.2.1 (A.tE u.out.1 (by have:=u.out.2;omega)))
 rw [x.out.2.2] at c
 go_wp2_with fail
 refine c.out.mono ?_
 rintro e w3 ⟨rfl,h⟩;have S:=hideS (d.out.bl.trans (h.mono d.out.bl.size));clear h d c
 go_wp2_with fail
 go_ret
 exact⟨rfl,S.out⟩
theorem JH (kind x:Int) (a g:Option Addr) (j l cx c b cy k:Nat) (xs:List Int) (ys:List Nat) (w:World) (hn:ys.length<=256) (h:TFl w a g j l c b xs ys) (q:k<ys.length) :
  Calls Tryz.prog 212 #[.agg #[.int .i64 kind,.slice a xs.length cx,.slice g ys.length cy],.int .i64 (k:Int),.int .i64 x] w fun e p=>e=.returned (.float .f64 (ys.getD k 0))/\Below w.heap.size w p:=by
 have d:=hideS (cF w kind (.slice a xs.length cx) (.slice g ys.length cy));obtain rfl:=h.y.at_ (by omega)
 have c0:(w.alloc (.cells #[.int .i64 kind,.slice a xs.length cx,.slice (some ⟨c,b,none⟩) ys.length cy] 195)).cell? ⟨c,b+k,none⟩=some (.float .f64 (ys.getD k 0)):=(h.below d.out.bl).y.cell k q;have o:=d.out.t2;clear h;generalize ys.getD k 0=y at *
 generalize ys.length=n at *
 generalize xs.length=m at *
 obtain⟨i,f⟩:∃ i,w.alloc (.cells #[.int .i64 kind,.slice a m cx,.slice (some ⟨c,b,none⟩) n cy] 195)=i:=⟨_,rfl⟩;rw [f] at c0 o d
 go_enter Tryz.func212,Tryz.ntmps212
 go_wp2_with fail
 go_ret
 exact⟨rfl,d.out.bl⟩
structure PieR (w:World) (kind:Int) (vx vy:Value) (bx ox b2 oy k:Nat) (x0 x1:Int) (y0 y1:Nat) (wr:World):Prop where
 box:TBox w kind vx vy wr
 a0:wr.cell? ⟨bx,ox+k,none⟩=some (.int .i64 x0)
 a1:wr.cell? ⟨bx,ox+(k+1),none⟩=some (.int .i64 x1)
 b0:wr.cell? ⟨b2,oy+k,none⟩=some (.float .f64 y0)
 b1:wr.cell? ⟨b2,oy+(k+1),none⟩=some (.float .f64 y1)
 lx:bx<wr.heap.size
 ly:b2<wr.heap.size
theorem PieR.step {w wr g:World} {kind:Int} {l f:Value} {e b c d k:Nat} {i j:Int} {y0 y1:Nat} (h:PieR w kind l f e b c d k i j y0 y1 wr) (a:Below wr.heap.size wr g):PieR w kind l f e b c d k i j y0 y1 g:=
 ⟨h.box.step a,(a.cell (p:=⟨e,b+k,none⟩) h.lx).trans h.a0,(a.cell (p:=⟨e,b+(k+1),none⟩) h.lx).trans h.a1,(a.cell (p:=⟨c,d+k,none⟩) h.ly).trans h.b0,(a.cell (p:=⟨c,d+(k+1),none⟩) h.ly).trans h.b1,Nat.lt_of_lt_of_le h.lx a.size,Nat.lt_of_lt_of_le h.ly a.size⟩
theorem PieR.drewN {w wr:World} {kind:Int} {d i:Value} {g a c f k:Nat} {b e:Int} {y0 y1:Nat} (h:PieR w kind d i g a c f k b e y0 y1 wr) (m:Nat):PieR w kind d i g a c f k b e y0 y1 (wr.drewN m):=⟨h.box.drewN m,h.a0,h.a1,h.b0,h.b1,h.lx,h.ly⟩
theorem PieR.drew {w wr:World} {kind:Int} {d i:Value} {g a c f k:Nat} {b e:Int} {y0 y1:Nat} (h:PieR w kind d i g a c f k b e y0 y1 wr):PieR w kind d i g a c f k b e y0 y1 wr.drew:=h.drewN 1
theorem Pp {w:World} {kind:Int} {b c:Option Addr} {h d cx e g cy k:Nat} {xs:List Int} {ys:List Nat} (i:TFl w b c h d e g xs ys) (l:ys.length=xs.length) (j:k+1<xs.length) :
  PieR w kind (.slice b xs.length cx) (.slice c ys.length cy) h d e g k (xs.getD k 0) (xs.getD (k+1) 0) (ys.getD k 0) (ys.getD (k+1) 0) (w.alloc (.cells #[.int .i64 kind,.slice b xs.length cx,.slice c ys.length cy] 195)):=by
 have f:=cF w kind (.slice b xs.length cx) (.slice c ys.length cy);have a:=i.below f.bl;exact⟨f,a.x.cell k (by omega),a.x.cell (k+1) j,a.y.cell k (by omega),a.y.cell (k+1) (by omega),a.x.lt (by omega),a.y.lt (by omega)⟩
theorem yG (kind x:Int) (d f cx g c cy n k l r:Nat) (h i:Int) (y0 y1 R:Nat) (w p:World) (m:w.alloc (.cells #[.int .i64 kind,.slice (some ⟨d,f,none⟩) n cx,.slice (some ⟨g,c,none⟩) n cy] 195)=p)
  (a:Hid (PieR w kind (.slice (some ⟨d,f,none⟩) n cx) (.slice (some ⟨g,c,none⟩) n cy) d f g c k h i y0 y1 p)) (q:k+1<n) (hn:n<=1000) (t:i - x=(l:Int)) (v:x - h=(r:Int)) (bl:l<=109572) (B:r<=109572)
  (u:Hid (∀ o,Calls Tryz.prog 220 #[.int .i64 (l:Int),.int .i64 (r:Int),.float .f64 y0,.float .f64 y1] o fun e j=>e=.returned (.float .f64 R)/\Below o.heap.size o j)) :
  Calls Tryz.prog 213 #[.agg #[.int .i64 kind,.slice (some ⟨d,f,none⟩) n cx,.slice (some ⟨g,c,none⟩) n cy],.int .i64 (k:Int),.int .i64 x] w fun e j=>e=.returned (.float .f64 R)/\Below w.heap.size w j:=by
 have H:IntKind.i64.wrap ((k:Int)+1)=(k:Int)+1:=by rw [IntKind.wrap_i64];omega
 have I:IntKind.i64.wrap (i - x)=(l:Int):=by rw [IntKind.wrap_i64];omega
 have A:IntKind.i64.wrap (x - h)=(r:Int):=by rw [IntKind.wrap_i64];omega
 have D:(0:Int)<=(k:Int)+1:=by omega
 have E:(k:Int)+1<(n:Int):=by omega
 have L:(0:Int)<=(k:Int):=by omega
 have J:(k:Int)<(n:Int):=by omega
 have y:=a.out.box.t1;have C:=a.out.box.t2;have F:=a.out.a0;have G:=a.out.a1;have M:=a.out.b0;have K:=a.out.b1;clear t v
 go_enter Tryz.func213,Tryz.ntmps213
 go_wp2_with fail
 clear m
 go_quiet (fail)
 go_wp2_with fail
 go_region_with ((go_at_call 220;refine (u.out _).mono ?_;rintro e z ⟨rfl,b⟩;have s:=hideS ((a.out.drewN _).box.step b).bl;clear b))
 all_goals
  go_wp2_with fail
  go_ret
  exact⟨rfl,s.out⟩
theorem PieR.all {w wr:World} {kind:Int} {f c:Value} {i d a b k:Nat} {e g:Int} {y0 y1:Nat} (h:PieR w kind f c i d a b k e g y0 y1 wr):wr.cell? ⟨w.heap.size,2,none⟩=some c/\wr.cell? ⟨a,b+k,none⟩=some (.float .f64 y0)/\wr.cell? ⟨a,b+(k+1),none⟩=some (.float .f64 y1):=⟨h.box.t2,h.b0,h.b1⟩
theorem Bu (kind x:Int) (f g cx d b cy n k l r:Nat) (o q:Int) (y0 y1 L J R E H:Nat) (w A:World) (I:w.alloc (.cells #[.int .i64 kind,.slice (some ⟨f,g,none⟩) n cx,.slice (some ⟨d,b,none⟩) n cy] 195)=A)
  (z:Hid (PieR w kind (.slice (some ⟨f,g,none⟩) n cx) (.slice (some ⟨d,b,none⟩) n cy) f g d b k o q y0 y1 A)) (Q:k+1<n) (hn:n<=1000) (U:q - x=(l:Int)) (Y:x - o=(r:Int)) (bl:l<=109572) (br:r<=109572)
  (B:Hid (∀ a,Calls Tryz.prog 223 #[.float .f64 y0] a fun e c=>e=.returned (.float .f64 L)/\Below a.heap.size a c))
  (D:Hid (∀ a,Calls Tryz.prog 223 #[.float .f64 y1] a fun e c=>e=.returned (.float .f64 J)/\Below a.heap.size a c))
  (X:Hid (∀ a,Calls Tryz.prog 220 #[.int .i64 (l:Int),.int .i64 (r:Int),.float .f64 L,.float .f64 J] a fun e c=>e=.returned (.float .f64 R)/\Below a.heap.size a c))
  (P:Hid (∀ a,Calls Tryz.prog 54 #[.float .f64 R] a fun e c=>e=.returned (.float .f64 E)/\Below a.heap.size a c))
  (W:Hid (∀ a,Calls Tryz.prog 224 #[.float .f64 E,.float .f64 y0,.float .f64 y1] a fun e c=>e=.returned (.float .f64 H)/\c=a)) :
  Calls Tryz.prog 215 #[.agg #[.int .i64 kind,.slice (some ⟨f,g,none⟩) n cx,.slice (some ⟨d,b,none⟩) n cy],.int .i64 (k:Int),.int .i64 x] w fun e c=>e=.returned (.float .f64 H)/\Below w.heap.size w c:=by
 have f1:IntKind.i64.wrap ((k:Int)+1)=(k:Int)+1:=by rw [IntKind.wrap_i64];omega
 have f2:IntKind.i64.wrap (q - x)=(l:Int):=by rw [IntKind.wrap_i64];omega
 have f3:IntKind.i64.wrap (x - o)=(r:Int):=by rw [IntKind.wrap_i64];omega
 have g1:(0:Int)<=(k:Int)+1:=by omega
 have g2:(k:Int)+1<(n:Int):=by omega
 have g3:(0:Int)<=(k:Int):=by omega
 have g4:(k:Int)<(n:Int):=by omega
 have y:Hid (∀ m,PieR w kind (.slice (some ⟨f,g,none⟩) n cx) (.slice (some ⟨d,b,none⟩) n cy) f g d b k o q y0 y1 (A.drewN m)):=fun m=>z.out.drewN m
 have O:=z.out.box.t1;have S:=z.out.a0;have T:=z.out.a1;clear U Y
 go_enter Tryz.func215,Tryz.ntmps215
 go_wp2_with fail
 clear I
 go_quiet (fail)
 go_wp2_with fail
 clear O S T z;generalize v:A.drewN _=V at *
 have h:Hid (PieR w kind (.slice (some ⟨f,g,none⟩) n cx) (.slice (some ⟨d,b,none⟩) n cy) f g d b k o q y0 y1 V):=by show PieR _ _ _ _ _ _ _ _ _ _ _ _ _ _;rw [<- v];exact y.out _
 clear v y;have K:=h.out.box.t2;have N:=h.out.b0;have M:=h.out.b1
 go_region_held3 (fun x=>x.cell? ⟨w.heap.size,2,none⟩=some (.slice (some ⟨d,b,none⟩) n cy)/\x.cell? ⟨d,b+k,none⟩=some (.float .f64 y0)/\x.cell? ⟨d,b+(k+1),none⟩=some (.float .f64 y1)) (first | exact h.out.all | exact G.out.all | exact F.out.all | exact C.out.all | exact i.out.all | go_keep) (first | ((go_at_call_of 223 (Value.float FloatKind.f64 y0);refine (B.out _).mono ?_;rintro e w2 ⟨rfl,j⟩;have G:=hideS (h.out.drew.step j);clear j)) | ((go_at_call_of 223 (Value.float FloatKind.f64 y1);refine (D.out _).mono ?_;rintro e w3 ⟨rfl,u⟩;have F:=hideS (G.out.step u);clear u)) | ((go_at_call 220;refine (X.out _).mono ?_;rintro e w4 ⟨rfl,p⟩;have C:=hideS (F.out.step p);clear p)) | ((go_at_call 54;refine (P.out _).mono ?_;rintro e Z ⟨rfl,s⟩;have i:=hideS (C.out.step s);clear s)))
 all_goals
  clear K N M;have K:=i.out.box.t2;have N:=i.out.b0;have M:=i.out.b1;have t:=hideS i.out.box.bl;clear h G F C i
  go_wp2_with fail
  go_region_with ((go_at_call 224;refine (W.out _).mono ?_;rintro e w6 ⟨rfl,rfl⟩))
  all_goals
   go_wp2_with fail
   go_ret
   exact⟨rfl,t.out.os,t.out.tape,t.out.output,t.out.size,t.out.block⟩
def jp (a b c d:Int):Obj:=.cells #[.int .i64 a,.int .i64 b,.int .i64 c,.int .i64 d] 248
theorem nL {w:World} {g:Nat} {a b c d:Int} (h:w.heap[g]? =some (jp a b c d)):(w.cell? ⟨g,0,none⟩=some (.int .i64 a)/\w.cell? ⟨g,1,none⟩=some (.int .i64 b)/\w.cell? ⟨g,2,none⟩=some (.int .i64 c)/\w.cell? ⟨g,3,none⟩=some (.int .i64 d))/\∀ i,w.frozen? ⟨g,i,none⟩=false:=by
 unfold jp at h
 refine⟨⟨?_,?_,?_,?_⟩,fun i=>frozen_of_row w g i _ _ h⟩
 all_goals
  simp only [World.cell?,h,Option.isSome_none,Bool.false_eq_true,if_false]
  rfl
def yH (w:World) (g:Nat) (a b c d:Int):World:=(((w.setCell ⟨g,0,none⟩ (.int .i64 a)).setCell ⟨g,1,none⟩ (.int .i64 b)).setCell ⟨g,2,none⟩ (.int .i64 c)).setCell ⟨g,3,none⟩ (.int .i64 d)
theorem tF {w:World} {g:Nat} {a b c d a' b' c' d':Int} (h:w.heap[g]? =some (jp a b c d)):(yH w g a' b' c' d').heap[g]? =some (jp a' b' c' d'):=by
 unfold jp at h
 exact av _ (av _ (av _ (av _ h)))
theorem yI (w:World) (g:Nat) (a b c d:Int) (B:Nat) (e:B<=g):Below B w (yH w g a b c d):=
 ((((Below.refl B w).setCell (p:=⟨g,0,none⟩) e _).setCell (p:=⟨g,1,none⟩) e _).setCell (p:=⟨g,2,none⟩) e _).setCell (p:=⟨g,3,none⟩) e _
theorem Fp {w wr c:World} {b:Nat} {v:Value} {L:Nat} {a:A.St} (h:A.Run w wr b v L a) (d:Below wr.heap.size wr c):A.Run w c b v L a:=⟨h.acc.below d,h.bl.trans (d.mono h.bl.size)⟩
theorem vC (a b c d:Nat) (w:World):(Instr.index 249 (.agg #[.float .f64 a,.float .f64 b,.float .f64 c,.float .f64 d]) (.int .i64 0)).run Tryz.prog w=.ok (.float .f64 a) w/\(Instr.index 249 (.agg #[.float .f64 a,.float .f64 b,.float .f64 c,.float .f64 d]) (.int .i64 1)).run Tryz.prog w=.ok (.float .f64 b) w/\(Instr.index 249 (.agg #[.float .f64 a,.float .f64 b,.float .f64 c,.float .f64 d]) (.int .i64 2)).run Tryz.prog w=.ok (.float .f64 c) w/\(Instr.index 249 (.agg #[.float .f64 a,.float .f64 b,.float .f64 c,.float .f64 d]) (.int .i64 3)).run Tryz.prog w=.ok (.float .f64 d) w:=by
 refine⟨?_,?_,?_,?_⟩ <;>kernel_rfl
structure CubR (g:Nat) (ws:List Int) (ps:List Nat) (k:Nat) (q:Int) (c:Nat):Prop where
 f:floatOfInt .f64 q=fi q
 nx:wAt ws ps (k+1)=(wAt ws ps k).merge (A.bn (fi q) c)
 u:U64 (fi q:Nat)
 v:U64 (c:Nat)
theorem Bv (kind x:Int) (H L cx I J cy n k D D3:Nat) (x0 x1 i e q1 t r1 r2 r s2 y t1 q n1:Int) (y0 y1 a b c d R:Nat) (w w0:World) (bh:w.alloc (.cells #[.int .i64 kind,.slice (some ⟨H,L,none⟩) n cx,.slice (some ⟨I,J,none⟩) n cy] 195)=w0)
  (HB:Hid (PieR w kind (.slice (some ⟨H,L,none⟩) n cx) (.slice (some ⟨I,J,none⟩) n cy) H L I J k x0 x1 y0 y1 w0)) (cq:k+1<n) (hn:n<=1000) (he:x1 - x=e) (hi:x - x0=i) (hD:e+i=(D:Int)) (cp:0<=e) (ct:e<=109572) (i0:0<=i) (i1:i<=109572) (cv:(D:Int)<=109572) (hC:CubW (D:Int) i e q1 t r1 r2 r s2 y t1 q n1 (D3:Int)) (ak:1<=D3) (na:NumW a) (nb:NumW b) (nc:NumW c) (nd:NumW d) (hR:aR (wAt [t,r,y,q] [a,b,c,d] 4) D3=R)
  (HP:Hid (∀ wx,Below w.heap.size w wx->Calls Tryz.prog 221 #[.agg #[.int .i64 kind,.slice (some ⟨H,L,none⟩) n cx,.slice (some ⟨I,J,none⟩) n cy],.int .i64 (k:Int)] wx fun e w'=>e=.returned (.agg #[.float .f64 a,.float .f64 b,.float .f64 c,.float .f64 d])/\Below wx.heap.size wx w')) :
  Calls Tryz.prog 214 #[.agg #[.int .i64 kind,.slice (some ⟨H,L,none⟩) n cx,.slice (some ⟨I,J,none⟩) n cy],.int .i64 (k:Int),.int .i64 x] w fun e w'=>e=.returned (.float .f64 R)/\Below w.heap.size w w':=by
 obtain⟨bz,bi,cf,cd,bv,cc,br,bo,bk,ai,am,⟨p1,cs⟩,⟨p2,df⟩,⟨p3,dc⟩,⟨p4,da⟩,⟨p5,cm⟩,⟨p6,cr⟩,⟨p7,cu⟩,⟨p8,db⟩,⟨p9,cl⟩,⟨T,G⟩,⟨Z,B⟩⟩:=hC;have h4:=xI (K:=1074) rfl (a:=t) (b:=r) (c:=y) (d:=q) ⟨by omega,by omega⟩ ⟨by omega,by omega⟩ ⟨by omega,by omega⟩ ⟨by omega,by omega⟩ na.lt na.nb nb.lt nb.nb nc.lt nc.nb nd.lt nd.nb
 have hs:(wAt [t,r,y,q] [a,b,c,d] 4).s=0:=by rw [h4]
 have hO:A.gG (wAt [t,r,y,q] [a,b,c,d] 4).N D3=R:=by rw [<- hR];unfold aR;rw [if_pos hs]
 have C0:Hid (CubR 0 [t,r,y,q] [a,b,c,d] 0 t a):=⟨bE _,rfl,aU (kn (by omega) (by omega)),aU na.lt⟩
 have C1:Hid (CubR 0 [t,r,y,q] [a,b,c,d] 1 r b):=⟨bE _,rfl,aU (kn (by omega) (by omega)),aU nb.lt⟩
 have C2:Hid (CubR 0 [t,r,y,q] [a,b,c,d] 2 y c):=⟨bE _,rfl,aU (kn (by omega) (by omega)),aU nc.lt⟩
 have C3:Hid (CubR 0 [t,r,y,q] [a,b,c,d] 3 q d):=⟨bE _,rfl,aU (kn (by omega) (by omega)),aU nd.lt⟩
 have hz:wAt [t,r,y,q] [a,b,c,d] 0=⟨0,0⟩:=rfl;obtain⟨F,hF⟩:∃ F,wAt [t,r,y,q] [a,b,c,d]=F:=⟨_,rfl⟩;have W:=hideS (And.intro hs (And.intro hO (And.intro ak (show D3<9223372036854775808 by omega))))
 rw [hF] at W
 have HZ:=hideS hz;rw [hF] at HZ
 have f1:IntKind.i64.wrap ((k:Int)+1)=(k:Int)+1:=by rw [IntKind.wrap_i64];omega
 have f2:IntKind.i64.wrap (x1 - x)=e:=by rw [IntKind.wrap_i64];omega
 have f3:IntKind.i64.wrap (x - x0)=i:=by rw [IntKind.wrap_i64];omega
 have g1:(0:Int)<=(k:Int)+1:=by omega
 have g2:(k:Int)+1<(n:Int):=by omega
 have g3:(0:Int)<=(k:Int):=by omega
 have g4:(k:Int)<(n:Int):=by omega
 have ab:Hid (∀ m,PieR w kind (.slice (some ⟨H,L,none⟩) n cx) (.slice (some ⟨I,J,none⟩) n cy) H L I J k x0 x1 y0 y1 (w0.drewN m)):=fun m=>HB.out.drewN m
 have u1:=HB.out.box.t1;have a0:=HB.out.a0;have a1:=HB.out.a1;have HQ:=hideS (And.intro ai (And.intro am (And.intro T (And.intro G (And.intro Z B)))));clear he hi hs hO hR h4 na nb nc nd hz ai am T G Z B ak
 go_enter Tryz.func214,Tryz.ntmps214
 go_wp2_with fail
 clear bh
 go_quiet (fail)
 clear u1 a0 a1 HB f1 f2 f3;generalize ba:w0.drewN _=o at *
 have K0:Hid (PieR w kind (.slice (some ⟨H,L,none⟩) n cx) (.slice (some ⟨I,J,none⟩) n cy) H L I J k x0 x1 y0 y1 o):=by show PieR _ _ _ _ _ _ _ _ _ _ _ _ _ _;rw [<- ba];exact ab.out _
 clear ba ab;have HA:=hideS (show (o.alloc (jp 0 0 0 0)).heap[o.heap.size]? =some (jp 0 0 0 0) from heap_alloc_new o _)
 obtain⟨⟨c0,c1,c2,c3⟩,fz⟩:=nL HA.out;have z0:=fz 0;have z1:=fz 1;have z2:=fz 2;have z3:=fz 3;have HL:=hideS (((Below.refl o.heap.size o).alloc (Nat.le_refl _) (jp 0 0 0 0)).trans (yI _ o.heap.size t r y q o.heap.size (Nat.le_refl _)));have HY:=hideS (nL (tF (a':=t) (b':=r) (c':=y) (d':=q) HA.out)).1;have HG:Hid (o.heap.size<(yH (o.alloc (jp 0 0 0 0)) o.heap.size t r y q).heap.size):=(Array.getElem?_eq_some_iff.1 (tF (a':=t) (b':=r) (c':=y) (d':=q) HA.out)).1
 clear fz HA;obtain⟨w2,U⟩:∃ w2,o.alloc (jp 0 0 0 0)=w2:=⟨_,rfl⟩;rw [U] at c0 c1 c2 c3 z0 z1 z2 z3 HL HY HG
 unfold jp at U
 obtain⟨g,S⟩:∃ g,yH w2 o.heap.size t r y q=g:=⟨_,rfl⟩;rw [S] at HL HY HG
 unfold yH at S
 have bb:=hideS (A.uT g g.heap.size (Nat.le_refl _));have K3:=hideS (K0.out.step HL.out);have al:Hid (w.heap.size<=g.heap.size/\Below w.heap.size w g):=⟨K3.out.box.bl.size,K3.out.box.bl⟩;clear HL K0
 go_wp2_with fail
 clear U S c0 c1 c2 c3 z0 z1 z2 z3 bz bi cf cd bv cc br bo bk;refine bb.out.mono ?_
 rintro er w4 ⟨rfl,ac,bc⟩;have R0:Hid (A.Run g w4 g.heap.size (.slice none 0 0) (72*0) (F 0)):=by show A.Run _ _ _ _ _ _;rw [HZ.out];exact⟨ac,bc⟩
 have K4:=hideS (K3.out.step bc);clear ac bc bb K3;have u0:=K4.out.box.t0;have u1:=K4.out.box.t1;have u2:=K4.out.box.t2
 go_wp2_with fail
 refine (HP.out _ K4.out.box.bl).mono ?_
 rintro er w5 ⟨rfl,as⟩;have R1:=hideS (Fp R0.out as);clear as u0 u1 u2 K4 R0 HP;have HF:=hideS hF;have HX:Hid (w.heap.size<=g.heap.size/\Below w.heap.size w g):=al;clear hF HZ al
 go_wp2_with fail
 go_loopw [12,13,61] (fun _ _ i z=>∃ k:Nat,k<=4/\i=.int .i64 k/\Hid (∃ v,A.Run g z g.heap.size v (72*k) (F k))) (fun _ _ i _=>4 - (intOf i).toNat)
 case atStart=>exact⟨0,Nat.zero_le _,rfl,⟨_,R1.out⟩⟩
 case round=>
  clear R1;obtain⟨k,hk,rfl,HR⟩:=hrel;obtain⟨v,h⟩:=HR.out
  by_cases dd:k<4
  ·rcases (show k=0\/k=1\/k=2\/k=3 by omega) with rfl | rfl | rfl | rfl
   ·have hc:z.cell? ⟨o.heap.size,0,none⟩=some (.int .i64 t):=(h.bl.cell (p:=⟨o.heap.size,0,none⟩) HG.out).trans HY.out.1;have hf:=C0.out.f;have Q:=(vC a b c d z).1;have E:=hideS C0.out.nx;rw [HF.out] at E
    have l:=hideS (A.gH g.heap.size g.heap.size v (72*0) _ (fi t) a z h.acc h.bl.size C0.out.u C0.out.v (by omega))
    have C:=hideS h;generalize fi t=X at *
    clear h HR
    go_wp2_with fail
    refine l.out.mono ?_
    rintro er M ⟨rfl,Y,P,j⟩;have O:Hid (∃ v,A.Run g M g.heap.size v (72*1) (F 1)):=⟨P,by rw [E.out];exact ((C.out.drewN Y).did j).mono (by omega)⟩
    clear j l C
    go_wp2_with fail
    go_roundw
    case rel=>exact⟨1,by omega,by simp,O⟩
    case measure=>simp [intOf]
   ·have hc:z.cell? ⟨o.heap.size,1,none⟩=some (.int .i64 r):=(h.bl.cell (p:=⟨o.heap.size,1,none⟩) HG.out).trans HY.out.2.1;have hf:=C1.out.f;have Q:=(vC a b c d z).2.1;have E:=hideS C1.out.nx;rw [HF.out] at E
    have l:=hideS (A.gH g.heap.size g.heap.size v (72*1) _ (fi r) b z h.acc h.bl.size C1.out.u C1.out.v (by omega))
    have C:=hideS h;generalize fi r=X at *
    clear h HR
    go_wp2_with fail
    refine l.out.mono ?_
    rintro er M ⟨rfl,Y,P,j⟩;have O:Hid (∃ v,A.Run g M g.heap.size v (72*2) (F 2)):=⟨P,by rw [E.out];exact ((C.out.drewN Y).did j).mono (by omega)⟩
    clear j l C
    go_wp2_with fail
    go_roundw
    case rel=>exact⟨2,by omega,by simp,O⟩
    case measure=>simp [intOf]
   ·have hc:z.cell? ⟨o.heap.size,2,none⟩=some (.int .i64 y):=(h.bl.cell (p:=⟨o.heap.size,2,none⟩) HG.out).trans HY.out.2.2.1;have hf:=C2.out.f;have Q:=(vC a b c d z).2.2.1;have E:=hideS C2.out.nx;rw [HF.out] at E
    have l:=hideS (A.gH g.heap.size g.heap.size v (72*2) _ (fi y) c z h.acc h.bl.size C2.out.u C2.out.v (by omega))
    have C:=hideS h;generalize fi y=X at *
    clear h HR
    go_wp2_with fail
    refine l.out.mono ?_
    rintro er M ⟨rfl,Y,P,j⟩;have O:Hid (∃ v,A.Run g M g.heap.size v (72*3) (F 3)):=⟨P,by rw [E.out];exact ((C.out.drewN Y).did j).mono (by omega)⟩
    clear j l C
    go_wp2_with fail
    go_roundw
    case rel=>exact⟨3,by omega,by simp,O⟩
    case measure=>simp [intOf]
   ·have hc:z.cell? ⟨o.heap.size,3,none⟩=some (.int .i64 q):=(h.bl.cell (p:=⟨o.heap.size,3,none⟩) HG.out).trans HY.out.2.2.2;have hf:=C3.out.f;have Q:=(vC a b c d z).2.2.2;have E:=hideS C3.out.nx;rw [HF.out] at E
    have l:=hideS (A.gH g.heap.size g.heap.size v (72*3) _ (fi q) d z h.acc h.bl.size C3.out.u C3.out.v (by omega))
    have C:=hideS h;generalize fi q=X at *
    clear h HR
    go_wp2_with fail
    refine l.out.mono ?_
    rintro er M ⟨rfl,Y,P,j⟩;have O:Hid (∃ v,A.Run g M g.heap.size v (72*4) (F 4)):=⟨P,by rw [E.out];exact ((C.out.drewN Y).did j).mono (by omega)⟩
    clear j l C
    go_wp2_with fail
    go_roundw
    case rel=>exact⟨4,by omega,by simp,O⟩
    case measure=>simp [intOf]
  ·obtain rfl:k=4:=by omega
   have V:=hideS (A.xC g.heap.size g.heap.size v (72*4) (F 4) D3 z h.acc h.bl.size (by omega) W.out.2.2.1 W.out.2.2.2 W.out.1 (A.tE W.out.2.2.1 (by have:=W.out.2.2.2;omega)))
   rw [W.out.2.1] at V
   have ci:=hideS (HX.out.2.trans (h.bl.mono HX.out.1));have bs:=hideS (Nat.le_trans HX.out.1 h.bl.size);obtain⟨m1,m2,T,G,Z,B⟩:=HQ.out;clear h HR
   go_wp2_with fail
   refine V.out.mono ?_
   rintro er M ⟨rfl,ad⟩;have ca:=hideS (ci.out.trans (ad.mono bs.out));clear ad V
   go_wp2_with fail
   go_ret
   exact⟨rfl,ca.out⟩
noncomputable def JI (kind:Int) (xs:List Int) (ys:List Nat) (k D:Nat) (i:Int):Nat:=if kind=1 then ys.getD k 0 else if kind=2 then linV ys k D i else if kind=3 then AR (ptL xs ys k) D i else logV lnW exW ys k D i
theorem MP {kind:Int} {xs:List Int} {ys:List Nat} {k:Nat} (h:OkT kind xs ys) (g:∀ i<ys.length,U64 (ys.getD i 0:Nat)) (j:k+1<xs.length):∃ a b c d,ptL xs ys k=[a,b,c,d]/\NumW a/\NumW b/\NumW c/\NumW d:=by
 rcases Int.le_total (ae (ys.getD k 0:Nat)) (ae (ys.getD (k+1) 0:Nat)) with f | f
 ·obtain⟨p,q,e,u⟩:=JB h g j f;exact⟨_,_,_,_,e,u.n0,u.n1,u.n2,u.n3⟩
 ·obtain⟨p,q,e,u⟩:=yA h g j f;exact⟨_,_,_,_,e,u.n0,u.n1,u.n2,u.n3⟩
theorem yJ {y:Nat} (h:NumW y) (b:ltB 0 (y:Nat)=true) (w:World):Calls Tryz.prog 223 #[.float .f64 y] w fun e a=>e=.returned (.float .f64 (lnW y))/\Below w.heap.size w a:=by
 obtain⟨c,f⟩:=iC h.lt b;obtain⟨z,e,k⟩:=(jl h.lt).fin h.nb f c;refine ((jl h.lt).prog w).mono fun l a ⟨r,i,g,j⟩=>⟨?_,j⟩
 rw [i];have d:lnW y=z:=by unfold lnW;rw [if_pos h.lt,e,ar]
 rw [e] at g
 rw [d,cR g.1]
theorem JJ {y:Nat} (a:y<18446744073709551616) (hn:ah (y:Int)=false) (w:World):Calls Tryz.prog 54 #[.float .f64 y] w fun e b=>e=.returned (.float .f64 (exW y))/\Below w.heap.size w b:=by
 obtain⟨z,e,h⟩:=(ce a).num hn;refine ((ce a).prog w).mono fun i b ⟨r,d,g,f⟩=>⟨?_,f⟩
 rw [d];have c:exW y=z:=by unfold exW;rw [if_pos a,e,ar]
 rw [e] at g
 rw [c,cR g.1]
theorem Fq (kind x:Int) (E C:Option Addr) (t v cx A s cy k D:Nat) (i:Int) (xs:List Int) (ys:List Nat) (w:World) (h:OkT kind xs ys) (m:TFl w E C t v A s xs ys) (z:Inside xs x k D i) :
  Calls Tryz.prog (iR kind) #[.agg #[.int .i64 kind,.slice E xs.length cx,.slice C ys.length cy],.int .i64 (k:Int),.int .i64 x] w fun e Q=>e=.returned (.float .f64 (JI kind xs ys k D i))/\Below w.heap.size w Q:=by
 have j:=z.lt;have I:=h.len;have hh:=h.hi;have F:=eo h z;have i0:=z.lo;have i1:=z.hi';have e1:=z.hD;have e2:=z.hi;have G:=aN h m.u (show k<xs.length by omega)
 have M:=aN h m.u j;have P:=Pp (kind:=kind) (cx:=cx) (cy:=cy) m I j;have n:=m.x.at_ (by omega)
 have p:=m.y.at_ (by omega)
 obtain⟨l,q⟩:∃ l:Nat,(D:Int) - i=(l:Int):=⟨((D:Int) - i).toNat,by omega⟩
 obtain⟨r,o⟩:∃ r:Nat,i=(r:Int):=⟨i.toNat,by omega⟩
 unfold iR JI;have k1:=h.k1;have k4:=h.k4
 by_cases H:kind=1
 ·rw [if_pos H,if_pos H];exact JH kind x E C t v cx A s cy k xs ys w (by omega) m (by omega)
 ·rw [if_neg H,if_neg H]
  by_cases L:kind=2
  ·rw [if_pos L,if_pos L];subst n p;rw [I] at P ⊢
   refine yG kind x t v cx A s cy xs.length k l r _ _ _ _ _ w _ rfl P j (by omega) (by omega) (by omega) (by omega) (by omega) (fun f=>nK l r D _ _ _ f (by omega) (by omega) (by omega) (by omega) G M ?_)
   unfold linV;rw [q,o]
  ·rw [if_neg L,if_neg L]
   by_cases J:kind=3
   ·rw [if_pos J,if_pos J];obtain⟨a,b,c,d,T,na,nb,X,nd⟩:=MP h m.u j;obtain⟨w1,w2,r1,r2,r3,Z,s3,Y,t2,m1,m2,g⟩:=uZ (D:=(D:Int)) (i:=i) (e:=(D:Int) - i) (by omega) (by omega) (by omega) (by omega) (by omega) F.2
    have R:m2=((D*D*D:Nat):Int):=by rw [<- g.hn2,<- g.hn1];simp
    rw [R] at g
    have V:Hid (∀ f,Below w.heap.size w f->Calls Tryz.prog 221 #[.agg #[.int .i64 kind,.slice E xs.length cx,.slice C ys.length cy],.int .i64 (k:Int)] f fun e Q=>e=.returned (.agg #[.float .f64 a,.float .f64 b,.float .f64 c,.float .f64 d])/\Below f.heap.size f Q):=fun f W=>by
     have:=Bt kind E C t v cx A s cy k xs ys f h (m.below W) j;rw [T] at this
     exact this
    subst n p;rw [I] at P V ⊢
    refine Bv kind x t v cx A s cy xs.length k D (D*D*D) _ _ i ((D:Int) - i) w1 w2 r1 r2 r3 Z s3 Y t2 m1 _ _ a b c d _ w _ rfl P j (by omega) (by omega) (by omega) (by omega) (by omega) (by omega) (by omega) (by omega) F.2 g (Nat.mul_pos (Nat.mul_pos F.1 F.1) F.1) na nb X nd ?_ V
    unfold AR;rw [T,<- g.hq2,<- g.hq1,<- g.hr3,<- g.hr2,<- g.hr1,<- g.hs3,<- g.hs2,<- g.hr1,<- g.ht2,<- g.ht1]
   ·rw [if_neg J,if_neg J];obtain rfl:kind=4:=by omega
    have S:=(aq (h.node k (by omega))).2.2.2.2 rfl
    have U:=(aq (h.node (k+1) j)).2.2.2.2 rfl;have O:=jQ G S;have N:=jQ M U;have hv:linV [lnW (ys.getD k 0),lnW (ys.getD (k+1) 0)] 0 D i=aR (wAt [(D:Int) - i,i] [lnW (ys.getD k 0),lnW (ys.getD (k+1) 0)] 2) D:=rfl;have B:aR (wAt [(D:Int) - i,i] [lnW (ys.getD k 0),lnW (ys.getD (k+1) 0)] 2) D<18446744073709551616/\ah (aR (wAt [(D:Int) - i,i] [lnW (ys.getD k 0),lnW (ys.getD (k+1) 0)] 2) D:Nat)=false:=by
     rw [vh (K:=1074) rfl ⟨by omega,by omega⟩ ⟨by omega,by omega⟩ O.lt O.nb N.lt N.nb,kL]
     exact⟨by have:=(cA (((D:Int) - i)*uI 1074 (lnW (ys.getD k 0))+i*uI 1074 (lnW (ys.getD (k+1) 0))) D).1.2;omega,(cA _ D).2.1⟩
    subst n p;rw [I] at P ⊢
    refine Bu 4 x t v cx A s cy xs.length k l r _ _ _ _ (lnW (ys.getD k 0)) (lnW (ys.getD (k+1) 0)) _ (exW (aR (wAt [(l:Int),(r:Int)] [lnW (ys.getD k 0),lnW (ys.getD (k+1) 0)] 2) D)) _ w _ rfl P j (by omega) (by omega) (by omega) (by omega) (by omega) (fun f=>yJ G S f) (fun f=>yJ M U f) (fun f=>nK l r D _ _ _ f (by omega) (by omega) (by omega) (by omega) O N rfl) ?_ ?_
    ·rw [<- q,<- o];exact fun f=>JJ B.1 B.2 f
    ·rw [<- q,<- o];exact fun f=>mU _ _ _ f (JC _) G M
theorem Fr (kind x E:Int) (F g d:Value) (w:World) (h:E≠0) (k:Hid (∀ b,Below w.heap.size w b->Calls Tryz.prog 178 #[.agg #[.int .i64 kind,g,d]] b fun e c=>e=.returned (.tuple #[F,.int .i64 E])/\Below b.heap.size b c)) :
  Calls Tryz.prog 160 #[.agg #[.int .i64 kind,g,d],.int .i64 x] w fun e c=>e=.returned (.tuple #[.float .f64 0,.int .i64 E])/\Below w.heap.size w c:=by
 have i:=hideS (cF w kind g d);have j:(E !=0)=true:=bne_iff_ne.2 h;clear h
 go_enter Tryz.func160,Tryz.ntmps160
 go_wp2_with fail
 refine (k.out _ i.out.bl).mono ?_
 rintro e l ⟨rfl,a⟩;have f:=hideS (i.out.step a);clear a
 go_wp2_with fail
 go_ret2
 exact⟨rfl,f.out.bl⟩
theorem Fs (kind x k E:Int) (F g h:Value) (w:World) (j:E≠0) (o:Hid (∀ a,Below w.heap.size w a->Calls Tryz.prog 178 #[.agg #[.int .i64 kind,g,h]] a fun e f=>e=.returned (.tuple #[F,.int .i64 0])/\Below a.heap.size a f))
  (p:Hid (∀ a,Below w.heap.size w a->Calls Tryz.prog 179 #[g,.int .i64 x] a fun e f=>e=.returned (.tuple #[.int .i64 k,.int .i64 E])/\Below a.heap.size a f)) :
  Calls Tryz.prog 160 #[.agg #[.int .i64 kind,g,h],.int .i64 x] w fun e f=>e=.returned (.tuple #[.float .f64 0,.int .i64 E])/\Below w.heap.size w f:=by
 have l:=hideS (cF w kind g h);have n:(E !=0)=true:=bne_iff_ne.2 j;clear j
 go_enter Tryz.func160,Tryz.ntmps160
 go_wp2_with fail
 refine (o.out _ l.out.bl).mono ?_
 rintro e r ⟨rfl,d⟩;have b:=hideS (l.out.step d);clear d;have m:=b.out.t1
 go_wp2_with fail
 refine (p.out _ b.out.bl).mono ?_
 rintro e q ⟨rfl,c⟩;have i:=hideS (b.out.step c);clear c m
 go_wp2_with fail
 go_ret2
 exact⟨rfl,i.out.bl⟩
theorem JK (kind x f:Int) (F:Nat) (g h cx p l cy n k y V:Nat) (w:World) (v:F=212\/F=213\/F=214\/F=215) (A:k<n) (D:n<=256) (t:f=x->V=y)
  (G:Hid (∀ a,Below w.heap.size w a->Calls Tryz.prog 178 #[.agg #[.int .i64 kind,.slice (some ⟨g,h,none⟩) n cx,.slice (some ⟨p,l,none⟩) n cy]] a fun e d=>e=.returned (.tuple #[.func (.func F) #[] #[],.int .i64 0])/\Below a.heap.size a d))
  (H:Hid (∀ a,Below w.heap.size w a->Calls Tryz.prog 179 #[.slice (some ⟨g,h,none⟩) n cx,.int .i64 x] a fun e d=>e=.returned (.tuple #[.int .i64 (k:Int),.int .i64 0])/\Below a.heap.size a d))
  (C:Hid (∀ a,Below w.heap.size w a->a.cell? ⟨g,h+k,none⟩=some (.int .i64 f)/\a.cell? ⟨p,l+k,none⟩=some (.float .f64 y)))
  (E:Hid (f≠x->∀ a,Below w.heap.size w a->Calls Tryz.prog F #[.agg #[.int .i64 kind,.slice (some ⟨g,h,none⟩) n cx,.slice (some ⟨p,l,none⟩) n cy],.int .i64 (k:Int),.int .i64 x] a fun e d=>e=.returned (.float .f64 V)/\Below a.heap.size a d)) :
  Calls Tryz.prog 160 #[.agg #[.int .i64 kind,.slice (some ⟨g,h,none⟩) n cx,.slice (some ⟨p,l,none⟩) n cy],.int .i64 x] w fun e d=>e=.returned (.tuple #[.float .f64 V,.int .i64 0])/\Below w.heap.size w d:=by
 have u:=hideS (cF w kind (.slice (some ⟨g,h,none⟩) n cx) (.slice (some ⟨p,l,none⟩) n cy));have B:=hideS t;clear t;rcases v with rfl | rfl | rfl | rfl
 all_goals
  go_enter Tryz.func160,Tryz.ntmps160
  go_wp2_with fail
  refine (G.out _ u.out.bl).mono ?_
  rintro e K ⟨rfl,m⟩;have c:=hideS (u.out.step m);clear m;have s:=c.out.t1
  go_wp2_with fail
  refine (H.out _ c.out.bl).mono ?_
  rintro e I ⟨rfl,j⟩;have b:=hideS (c.out.step j);clear j s;have L:=b.out.t0;have s:=b.out.t1;have J:=b.out.t2;obtain⟨c0,c1⟩:=C.out _ b.out.bl
  by_cases i:f=x
  ·have z:(f==x)=true:=beq_iff_eq.2 i;obtain rfl:=B.out i;clear i
   go_wp2_with fail
   go_ret2
   exact⟨rfl,b.out.bl⟩
  ·have z:(f==x)=false:=beq_eq_false_iff_ne.2 i;have r:=hideS (E.out i);clear i
   go_wp2_with fail
   refine (r.out _ b.out.bl).mono ?_
   rintro e M ⟨rfl,o⟩;have q:=hideS (b.out.step o);clear o
   go_wp2_with fail
   go_ret2
   exact⟨rfl,q.out.bl⟩
inductive AtO (kind:Int) (xs:List Int) (ys:List Nat) (x:Int):Nat->Int->Prop
 | err (k E:Int) (h:FindO kind xs ys x k E) (hE:E≠0):AtO kind xs ys x 0 E
 | node (k:Nat) (ok:OkT kind xs ys) (h:FindO kind xs ys x (k:Int) 0) (hk:FindR xs x k) (he:xs.getD k 0=x):AtO kind xs ys x (ys.getD k 0) 0
 | piece (k D:Nat) (i:Int) (ok:OkT kind xs ys) (h:FindO kind xs ys x (k:Int) 0) (hk:FindR xs x k) (he:xs.getD k 0≠x) (hI:Inside xs x k D i):AtO kind xs ys x (JI kind xs ys k D i) 0
theorem Pq (kind:Int) (xs:List Int) (ys:List Nat) (x:Int):∃ V E,AtO kind xs ys x V E:=by
 obtain⟨k,E,h⟩:=GC kind xs ys x
 by_cases a:E=0
 ·subst a;generalize e:(0:Int)=z at h
  have f:=h;cases h with
  | bad E h a=>exact absurd e.symm a
  | out h n=>cases e
  | at_ g j b k c m=>
   by_cases d:xs.getD k 0=x
   ·exact⟨_,_,.node k g f c d⟩
   ·obtain⟨D,i,l⟩:=EM b c d;exact⟨_,_,.piece k D i g f c d l⟩
 ·exact⟨_,_,.err k E h a⟩
theorem yK (kind:Int):iR kind=212\/iR kind=213\/iR kind=214\/iR kind=215:=by
 unfold iR
 split
 ·exact .inl rfl
 ·split
  ·exact .inr (.inl rfl)
  ·split
   ·exact .inr (.inr (.inl rfl))
   ·exact .inr (.inr (.inr rfl))
theorem Fu (kind x E:Int) (V:Nat) (g f:Option Addr) (o p cx q n cy:Nat) (xs:List Int) (ys:List Nat) (w:World) (h:AtO kind xs ys x V E) (l:TFl w g f o p q n xs ys) :
  Calls Tryz.prog 160 #[.agg #[.int .i64 kind,.slice g xs.length cx,.slice f ys.length cy],.int .i64 x] w fun e m=>e=.returned (.tuple #[.float .f64 V,.int .i64 E])/\Below w.heap.size w m:=by
 have t:∀ E,TabR kind xs ys E->∀ a,Below w.heap.size w a->Calls Tryz.prog 178 #[.agg #[.int .i64 kind,.slice g xs.length cx,.slice f ys.length cy]] a fun e m=>e=.returned (.tuple #[chF kind E,.int .i64 E])/\Below a.heap.size a m:=fun E J a d=>Bn kind E g f o p cx q n cy xs ys a J (l.below d)
 have r:∀ k V,OkT kind xs ys->FindO kind xs ys x ((k:Nat):Int) 0->k<xs.length->(xs.getD k 0=x->V=ys.getD k 0)->(xs.getD k 0≠x->∀ a,Below w.heap.size w a->Calls Tryz.prog (iR kind) #[.agg #[.int .i64 kind,.slice g xs.length cx,.slice f ys.length cy],.int .i64 (k:Int),.int .i64 x] a fun e m=>e=.returned (.float .f64 V)/\Below a.heap.size a m)->Calls Tryz.prog 160 #[.agg #[.int .i64 kind,.slice g xs.length cx,.slice f ys.length cy],.int .i64 x] w fun e m=>e=.returned (.tuple #[.float .f64 V,.int .i64 0])/\Below w.heap.size w m:=fun k V b F j K z=>by
  have s:=t 0 (.ok b);have I:=fun a (d:Below w.heap.size w a)=>nJ kind x k 0 g f o p cx q n xs ys a b F (l.below d)
  have H:=fun a (d:Below w.heap.size w a)=>And.intro ((l.below d).x.cell k j) ((l.below d).y.cell k (by rw [b.len];exact j))
  have G:=b.len;obtain rfl:=l.x.at_ (by omega)
  obtain rfl:=l.y.at_ (by omega)
  rw [G] at s z ⊢
  exact JK kind x _ (iR kind) o p cx q n cy xs.length k _ V w (yK kind) j b.hi K s I H z
 cases h with
 | err k E h u=>
  have L:=h;cases h with
  | bad E h u=>exact Fr kind x E _ _ _ w u (t E h)
  | out b N=>exact Fs kind x 0 51 _ _ _ w (by decide) (t 0 (.ok b)) (fun a d=>nJ kind x 0 51 g f o p cx q n xs ys a b L (l.below d))
  | at_ b B A k j M=>exact absurd rfl u
 | node k b h j v=>exact r k _ b h j.lt (fun _=>rfl) (fun c=>absurd v c)
 | piece k D i b h j v C=>exact r k _ b h j.lt (fun c=>absurd c v) (fun _ a d=>Fq kind x g f o p cx q n cy k D i xs ys a b (l.below d) C)
theorem Pr {kind x:Int} {V:Nat} {xs:List Int} {ys:List Nat} (h:AtO kind xs ys x V 0) (n:kind≠4):∃ k:Nat,OkT kind xs ys/\FindO kind xs ys x (k:Int) 0/\FindR xs x k/\AtR xs ys kind x k V:=by
 generalize g:(0:Int)=z at h
 cases h with
 | err k E h j=>exact absurd g.symm j
 | node k a h c e=>exact⟨k,a,h,c,.node kind x k e⟩
 | piece k D i a h c e f=>
  refine⟨k,a,h,c,?_⟩
  have m:=a.k1;have l:=a.k4;unfold JI
  by_cases b:kind=1
  ·rw [if_pos b];subst b;exact .flat x k e
  ·rw [if_neg b]
   by_cases d:kind=2
   ·rw [if_pos d];subst d;exact .lin x k D i f
   ·rw [if_neg d,if_pos (show kind=3 by omega)]
    obtain rfl:kind=3:=by omega
    exact .cub x k D i f
theorem yL {kind x:Int} {V:Nat} {xs:List Int} {ys:List Nat} (h:AtO kind xs ys x V 0) (l:∀ i<ys.length,U64 (ys.getD i 0:Nat)):∃ k:Nat,OkT kind xs ys/\FindO kind xs ys x (k:Int) 0/\k<xs.length/\V<18446744073709551616/\ah (V:Nat)=false/\(k+1<xs.length->min (ae (ys.getD k 0:Nat)) (ae (ys.getD (k+1) 0:Nat))<=ae (V:Nat)/\ae (V:Nat)<=max (ae (ys.getD k 0:Nat)) (ae (ys.getD (k+1) 0:Nat)))/\(¬ k+1<xs.length->ae (V:Nat)=ae (ys.getD k 0:Nat)):=by
 by_cases r:kind=4
 ·subst r;generalize s:(0:Int)=z at h
  cases h with
  | err k E h t=>exact absurd s.symm t
  | node k f h g u=>
   have q:=aN f l g.lt;exact⟨k,f,h,g.lt,q.lt,q.nn.nan,fun _=>⟨by omega,by omega⟩,fun _=>rfl⟩
  | piece k D i f h g u p=>
   obtain⟨a,b,c,d⟩:=JD f l p;exact⟨k,f,h,g.lt,b,a,fun _=>⟨c,d⟩,fun c=>absurd p.lt c⟩
 ·obtain⟨k,f,o,g,m⟩:=Pr h r
  by_cases j:k+1<xs.length
  ·rcases Int.le_total (ae (ys.getD k 0:Nat)) (ae (ys.getD (k+1) 0:Nat)) with n | n
   ·obtain⟨a,b,c,d⟩:=qH f l g.lt m (fun _=>n)
    have:=d j;exact⟨k,f,o,g.lt,by have:=a.2;omega,b,fun _=>⟨by omega,by omega⟩,fun c=>absurd j c⟩
   ·obtain⟨a,b,c,d⟩:=lT f l g.lt m (fun _=>n)
    have:=d j;exact⟨k,f,o,g.lt,by have:=a.2;omega,b,fun _=>⟨by omega,by omega⟩,fun c=>absurd j c⟩
  ·obtain⟨a,b,c,d⟩:=qH f l g.lt m (fun e=>absurd e j)
   obtain⟨y,A,v,w⟩:=lT f l g.lt m (fun e=>absurd e j)
   exact⟨k,f,o,g.lt,by have:=a.2;omega,b,fun e=>absurd e j,fun _=>by omega⟩
theorem JL {a b:Nat} (c:a<18446744073709551616) (f:b<18446744073709551616) (d:ah (a:Nat)=false) (e:ah (b:Nat)=false):((FloatKind.f64.format.order a b==some .lt)||(FloatKind.f64.format.order a b==some .eq))=decide (ae (a:Nat)<=ae (b:Nat)):=by
 rw [jB (aU c) (aU f) d e,eI (aU c) (aU f) d e];generalize ae (a:Nat)=r;generalize ae (b:Nat)=s
 by_cases g:r<s<;>by_cases i:r=s<;>by_cases h:r<=s<;>simp [g,i,h]<;>omega
inductive FacO (base kind:Int) (ds:List Int) (fs:List Nat) (n:Int):Nat->Int->Prop
 | bad (E:Int) (h:CurR base kind ds fs E) (hE:E≠0):FacO base kind ds fs n 0 E
 | ok (h:OkV base kind ds fs) (V:Nat) (E:Int) (hA:AtO kind (ctX base ds) (ctY fs) n V E):FacO base kind ds fs n V E
theorem vD (base kind:Int) (a:List Int) (b:List Nat) (n:Int):∃ V E,FacO base kind a b n V E:=by
 obtain⟨E,h⟩:=oJ base kind a b
 by_cases c:E=0
 ·subst c;obtain⟨V,E,d⟩:=Pq kind (ctX base a) (ctY b) n;exact⟨V,E,.ok (jR h) V E d⟩
 ·exact⟨0,E,.bad E h c⟩
theorem oK (base:Int) (a:List Int):(ctX base a).length=a.length+1:=rfl
theorem vE (a:List Nat):(ctY a).length=a.length+1:=rfl
theorem kN (a:List Nat) (i:Nat):(ctY a).getD i 0=prvF a i:=by cases i<;>rfl
theorem JN {a:List Nat} (b:∀ i<a.length,a.getD i 0<18446744073709551616):∀ i<(ctY a).length,(ctY a).getD i 0<18446744073709551616:=fun i hi=>by
 cases i with
 | zero=>exact (by decide:(4607182418800017408:Nat)<18446744073709551616)
 | succ i=>exact b i (by rw [vE] at hi;omega)
theorem Of {a:List Nat} (b:∀ i<a.length,a.getD i 0<18446744073709551616):∀ i<(ctY a).length,U64 ((ctY a).getD i 0:Nat):=fun i hi=>aU (JN b i hi)
theorem JO {base kind:Int} {a:List Int} {d:List Nat} (m:OkV base kind a d) {i:Nat} (hi:i<=a.length):AtO kind (ctX base a) (ctY d) (du base a i) (prvF d i) 0:=by
 have b:=m.table;have g:=oK base a;have c:∀ j,(ctX base a).getD j 0=du base a j:=Bw base a;have le:∀ j k,j<=k->k<=a.length->du base a j<=du base a k:=fun j k f e=>by
  rcases Nat.lt_or_eq_of_le f with h | h
  ·have:=b.rise h (by omega)
   rw [c,c] at this;omega
  ·rw [h];exact Int.le_refl _
 have e:FindR (ctX base a) (du base a i) i:=⟨by omega,by rw [c];exact Int.le_refl _,fun h=>by
  have:=b.step h;rw [c] at this;exact this⟩
 have:=AtO.node (kind:=kind) (ys:=ctY d) i b (.at_ b (by rw [c];exact le 0 i (Nat.zero_le _) hi) (by rw [c,g,Nat.add_sub_cancel];exact le i _ hi (Nat.le_refl _)) i e (fun j l=>⟨by omega,by rw [c];exact le (j+1) i l hi⟩)) e (c i)
 rw [kN] at this
 exact this
theorem jq {base kind:Int} {b:List Int} {a:List Nat} (d:OkV base kind b a):∀ i≤b.length,0<ae (prvF a i:Nat)/\ah (prvF a i:Nat)=false
 | 0,_=>by
  show 0<ae (4607182418800017408:Nat)/\ah (4607182418800017408:Nat)=false
  exact⟨by decide,by decide⟩
 | i+1,hi=>by
  have h:=(ch (d.node i (by omega))).2.2.2
  show 0<ae (a.getD i 0:Nat)/\ah (a.getD i 0:Nat)=false
  unfold ltB at h
  simp only [Bool.and_eq_true,Bool.not_eq_true',decide_eq_true_eq] at h
  have c:ae 0=0:=by decide
  exact⟨by rw [<- c];exact h.2,h.1.2⟩
theorem Fv {base kind:Int} {d:List Int} {a:List Nat} (b:OkV base kind d a) (h:nM a=true):∀ i<d.length,ae (prvF a (i+1):Nat)<=ae (prvF a i:Nat):=fun i hi=>by
 have c:=JM a;rw [h] at c
 cases c with
 | yes f=>
  have:=f i (by rw [b.len];exact hi)
  have p:=jq b i (by omega)
  have q:=jq b (i+1) (by omega)
  have e:ltB (prvF a i:Nat) (prvF a (i+1):Nat)=false:=this;rw [aC p.2 q.2,decide_eq_false_iff_not] at e
  omega
theorem qJ {base kind:Int} {b:List Int} {a:List Nat} (c:OkV base kind b a) (h:nM a=true):∀ i≤b.length,ae (prvF a i:Nat)<=ae (4607182418800017408:Nat)
 | 0,_=>Int.le_refl _
 | i+1,hi=>Int.le_trans (Fv c h i (by omega)) (qJ c h i (by omega))
theorem Dq {base kind a:Int} {d:List Int} {b:List Nat} {W:Nat} (g:OkV base kind d b) (m:∀ i<b.length,b.getD i 0<18446744073709551616) (h:AtO kind (ctX base d) (ctY b) a W 0):W<18446744073709551616/\ah (W:Nat)=false/\0<ae (W:Nat)/\(nM b=true->ae (W:Nat)<=ae (4607182418800017408:Nat)):=by
 obtain⟨k,_,_,o,n,l,e,f⟩:=yL h (Of m);rw [oK] at o e f
 rw [kN,kN] at e
 rw [kN] at f
 have p:=jq g k (by omega)
 refine⟨n,l,?_,fun j=>?_⟩
 ·by_cases c:k+1<d.length+1
  ·have:=(e c).1;have q:=jq g (k+1) (by omega)
   omega
  ·have:=f c;omega
 ·have r:=qJ g j k (by omega)
  by_cases c:k+1<d.length+1
  ·have:=(e c).2;have q:=qJ g j (k+1) (by omega)
   omega
  ·have:=f c;omega
end Go.Proofs.YtfdddijdjpijbaaGreat
