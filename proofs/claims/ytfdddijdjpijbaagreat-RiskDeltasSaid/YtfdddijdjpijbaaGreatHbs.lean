/-  -/
import Derived.Test.YtfdddijdjpijbaaGreatHbr
import Derived.Test.YtfdddijdjpijbaaGreatRkS
import Derived.Test.YtfdddijdjpijbaaGreatHax
import Derived.Test.YtfdddijdjpijbaaGreatHbq
import Derived.Test.YtfdddijdjpijbaaGreatHbn
import Derived.Test.YtfdddijdjpijbaaGreatHba
import Derived.Test.YtfdddijdjpijbaaGreatHay
set_option maxHeartbeats 12800000
set_option maxRecDepth 40000
namespace Go.Proofs.YtfdddijdjpijbaaGreat
open Go.RowKit
structure OwnC (w:World) (B:Nat) (d:Cv) (gx cx gy cy:Nat):Prop where
 x:w.ownsRow B 3 1 (.slice (some ⟨gx,0,none⟩) d.ds.length cx) d.ds.length (d.ds.map kV)
 y:w.ownsRow B 27 1 (.slice (some ⟨gy,0,none⟩) d.fs.length cy) d.fs.length (d.fs.map fV)
 n:0<d.ds.length
 m:0<d.fs.length
 f:d.Fit
theorem OwnC.src {w:World} {B:Nat} {d:Cv} {k cx i cy:Nat} (h:OwnC w B d k cx i cy):TFl w (some ⟨k,0,none⟩) (some ⟨i,0,none⟩) k 0 i 0 d.ds d.fs:=by
 obtain⟨g,c,e,l,_⟩:=dD h.x rfl h.n;obtain⟨q,p,o,j,_⟩:=fx h.y rfl h.m;injection e with b _ _;injection b with b;injection b with b;injection o with a _ _;injection a with a;injection a with a;subst b a;exact⟨l,j,h.f⟩
theorem OwnC.below {w a:World} {B:Nat} {d:Cv} {e cx b cy:Nat} (h:OwnC w B d e cx b cy) (c:Below w.heap.size w a):OwnC a B d e cx b cy:=⟨de h.x c,de h.y c,h.n,h.m,h.f⟩
theorem OwnC.mono {w:World} {B B':Nat} {d:Cv} {c cx a cy:Nat} (h:OwnC w B d c cx a cy) (b:B'<=B):OwnC w B' d c cx a cy:=⟨bS h.x b,bS h.y b,h.n,h.m,h.f⟩
theorem OwnC.put {w:World} {B b j:Nat} {d:Cv} {e cx a cy:Nat} (h:OwnC w B d e cx a cy) (c:b<B) (x:Value):OwnC (w.setCell ⟨b,j,none⟩ x) B d e cx a cy:=⟨aw h.x c x,aw h.y c x,h.n,h.m,h.f⟩
structure CvO (w:World) (d:Cv) (E:Int) (e:Ending) (w':World):Prop where
 bad:E≠0->e=.returned (.tuple #[.agg #[.int .i64 0,.int .i64 0,.slice none 0 0,.slice none 0 0],.int .i64 E])
 ok:E=0->∃ gx cx gy cy,e=.returned (.tuple #[.agg #[.int .i64 d.base,.int .i64 d.kind,.slice (some ⟨gx,0,none⟩) d.ds.length cx,.slice (some ⟨gy,0,none⟩) d.fs.length cy],.int .i64 0])/\OwnC w' w.heap.size d gx cx gy cy
 bl:Below w.heap.size w w'
structure CpB (w:World) (base kind:Int) (vd vf:Value) (wr:World):Prop where
 k:BxK wr w.heap.size base kind vd vf
 z:wr.heap[w.heap.size+1]? =some ar
 bl:Below w.heap.size w wr
theorem CpB.step {w wr b:World} {base kind:Int} {c d:Value} (h:CpB w base kind c d wr) (a:Below wr.heap.size wr b):CpB w base kind c d b:=
 ⟨h.k.step a,(a.block _ (Array.getElem?_eq_some_iff.1 h.z).1).trans h.z,h.bl.trans (a.mono h.bl.size)⟩
theorem CpB.stay {w wr b:World} {B:Nat} {base kind:Int} {c d:Value} (h:CpB w base kind c d wr) (a:Below B wr b) (e:w.heap.size+2<=B):CpB w base kind c d b:=
 ⟨⟨(a.block _ (by omega)).trans h.k.blk⟩,(a.block _ (by omega)).trans h.z,h.bl.trans (a.mono (by omega))⟩
theorem CpB.sz {w wr:World} {base kind:Int} {a b:Value} (h:CpB w base kind a b wr):w.heap.size+2<=wr.heap.size:=(Array.getElem?_eq_some_iff.1 h.z).1
theorem iU (w:World) (base kind:Int) (a b:Value):CpB w base kind a b ((w.alloc (.cells #[.int .i64 base,.int .i64 kind,a,b] 26)).alloc ar):=by
 have c:(w.alloc (.cells #[.int .i64 base,.int .i64 kind,a,b] 26)).heap.size=w.heap.size+1:=by simp
 refine⟨(rl w base kind a b).step ((Below.refl _ _).alloc (Nat.le_refl _) _),?_,((Below.refl _ _).alloc (Nat.le_refl _) _).alloc (by rw [c];omega) _⟩
 rw [<- c];exact heap_alloc_new _ _
theorem CpB.put {w wr:World} {base kind:Int} {a b:Value} (h:CpB w base kind a b wr) (x y:Value):CpB w base kind x y ((wr.setCell ⟨w.heap.size,2,none⟩ x).setCell ⟨w.heap.size,3,none⟩ y):=by
 refine⟨⟨au _ (au _ h.k.blk)⟩,?_,(h.bl.setCell (p:=⟨w.heap.size,2,none⟩) (Nat.le_refl _) x).setCell (p:=⟨w.heap.size,3,none⟩) (Nat.le_refl _) y⟩
 rw [Below.heap_setCell _ ⟨w.heap.size,3,none⟩ y _ (by show w.heap.size+1≠w.heap.size;omega),Below.heap_setCell _ ⟨w.heap.size,2,none⟩ x _ (by show w.heap.size+1≠w.heap.size;omega)]
 exact h.z
theorem BxK.frz {w:World} {g:Nat} {base kind:Int} {a b:Value} (h:BxK w g base kind a b) (i:Nat):w.frozen? ⟨g,i,none⟩=false:=frozen_of_row _ _ i _ _ h.blk
theorem CB (base kind:Int) (bd r y s p x n:Nat) (G:List Int) (N:List Nat) (w:World) (hd:VSrc w (some ⟨bd,r,none⟩) bd r n (xV G)) (hf:VSrc w (some ⟨s,p,none⟩) s p n (flV N)) (hl:G.length=n) (P:N.length=n) (hn:1<=n) (bh:n<=255) :
  Calls Tryz.prog 39 #[.agg #[.int .i64 base,.int .i64 kind,.slice (some ⟨bd,r,none⟩) n y,.slice (some ⟨s,p,none⟩) n x]] w fun e Y=>∃ d cx g cy,e=.returned (.agg #[.int .i64 base,.int .i64 kind,.slice (some ⟨d,0,none⟩) n cx,.slice (some ⟨g,0,none⟩) n cy])/\Y.ownsRow w.heap.size 3 1 (.slice (some ⟨d,0,none⟩) n cx) n (G.map kV)/\Y.ownsRow w.heap.size 27 1 (.slice (some ⟨g,0,none⟩) n cy) n (N.map fV)/\Below w.heap.size w Y:=by
 have K:=hideS (iU w base kind (.slice (some ⟨bd,r,none⟩) n y) (.slice (some ⟨s,p,none⟩) n x));have I:=hideS fun q (hb:Below w.heap.size w q)=>Cx bd r n y G q (hd.below hb) hl (by omega) (by omega)
 have H:=hideS fun q (hb:Below w.heap.size w q)=>Cy s p n x N q (hf.below hb) P (by omega) (by omega)
 clear hd hf hl P;obtain⟨b,C⟩:∃ b,(w.alloc (.cells #[.int .i64 base,.int .i64 kind,.slice (some ⟨bd,r,none⟩) n y,.slice (some ⟨s,p,none⟩) n x] 26)).alloc ar=b:=⟨_,rfl⟩;rw [C] at K
 unfold ar at C
 obtain⟨U,S,F,E⟩:=K.out.k.t
 go_enter Tryz.func39,Tryz.ntmps39
 go_wp2_with fail
 clear C;refine rO (fun xw=>xw.cell? ⟨w.heap.size,2,none⟩=some (.slice (some ⟨bd,r,none⟩) n y)/\xw.cell? ⟨w.heap.size,3,none⟩=some (.slice (some ⟨s,p,none⟩) n x)) (fun i=>i==7||i==8||i==9) (by kernel_rfl) ?_
 have f:b.drew.cell? ⟨w.heap.size,2,none⟩=some (.slice (some ⟨bd,r,none⟩) n y)/\b.drew.cell? ⟨w.heap.size,3,none⟩=some (.slice (some ⟨s,p,none⟩) n x):=⟨F,E⟩;refine ig 0 (.pointer (some ⟨w.heap.size,2,none⟩)) rfl (by kernel_rfl) (by kernel_rfl) (by kernel_rfl) (by kernel_rfl) (by kernel_rfl) (fun _ _ _ h=>h) (by rfl) f (fun q u=>by obtain⟨T,V⟩:=u;go_simp) ?_
 simp only [Act.put,List.setIfInBounds_toArray];refine ig 1 (.slice (some ⟨bd,r,none⟩) n y) rfl (by kernel_rfl) (by kernel_rfl) (by kernel_rfl) (by kernel_rfl) (by kernel_rfl) (fun _ _ _ h=>h) (by rfl) f (fun q u=>by obtain⟨T,V⟩:=u;go_simp) ?_
 simp only [Act.put];refine ig 3 (.pointer (some ⟨w.heap.size,3,none⟩)) rfl (by kernel_rfl) (by kernel_rfl) (by kernel_rfl) (by kernel_rfl) (by kernel_rfl) (fun _ _ _ h=>h) (by rfl) f (fun q u=>by obtain⟨T,V⟩:=u;go_simp) ?_
 simp only [Act.put];refine ig 4 (.slice (some ⟨s,p,none⟩) n x) rfl (by kernel_rfl) (by kernel_rfl) (by kernel_rfl) (by kernel_rfl) (by kernel_rfl) (fun _ _ _ h=>h) (by rfl) f (fun q u=>by obtain⟨T,V⟩:=u;go_simp) ?_
 simp only [Act.put];refine jI (i:=2) (by kernel_rfl) ?_
 refine wpOp_step rfl (fun K1 am=>?_)
 go_simp
 go_at_call 55
 refine (I.out _ (K.out.bl.drew)).mono ?_
 rintro e O ⟨d,cx,rfl,Q,c⟩;have o:Below b.heap.size b O:=⟨c.os,c.tape,c.output,c.size,c.block⟩;have m:=hideS (K.out.step o);have J:Hid (O.ownsRow b.heap.size 3 1 (.slice (some ⟨d,0,none⟩) n cx) n (G.map kV)):=Q;have D:O.cell? ⟨w.heap.size,2,none⟩=some (.slice (some ⟨bd,r,none⟩) n y)/\O.cell? ⟨w.heap.size,3,none⟩=some (.slice (some ⟨s,p,none⟩) n x):=⟨m.out.k.t.2.2.1,m.out.k.t.2.2.2⟩;have W:Hid (b.heap.size<=O.heap.size):=o.size;clear Q c o f U S F E;refine am _ _ ⟨fun _=>D,?_⟩
 refine ig 6 (.pointer (some ⟨w.heap.size,2,none⟩)) rfl (by kernel_rfl) (by kernel_rfl) (by kernel_rfl) (by kernel_rfl) (by kernel_rfl) (fun _ _ _ h=>h) (by rfl) D (fun q u=>by obtain⟨T,V⟩:=u;go_simp) ?_
 simp only [Act.put,List.setIfInBounds_toArray];refine jI (i:=5) (by kernel_rfl) ?_
 refine wpOp_step rfl (fun K2 ab=>?_)
 go_simp
 go_at_call 56
 refine (H.out _ m.out.bl).mono ?_
 rintro e w4 ⟨g,cy,rfl,R,B⟩;have l:=hideS (m.out.step B);have L:=hideS (de J.out B);have M:=hideS (bS R W.out);obtain⟨U,S,F,E⟩:=l.out.k.t;have z2:=l.out.k.frz 2;have z3:=l.out.k.frz 3;have A:=hideS (l.out.put (.slice (some ⟨d,0,none⟩) n cx) (.slice (some ⟨g,0,none⟩) n cy));have a:=hideS K.out.sz;have ba:=hideS (aw (j:=3) (aw (j:=2) L.out (show w.heap.size<b.heap.size by have:=a.out;omega) (.slice (some ⟨d,0,none⟩) n cx)) (show w.heap.size<b.heap.size by have:=a.out;omega) (.slice (some ⟨g,0,none⟩) n cy))
 have X:=hideS (aw (j:=3) (aw (j:=2) M.out (show w.heap.size<b.heap.size by have:=a.out;omega) (.slice (some ⟨d,0,none⟩) n cx)) (show w.heap.size<b.heap.size by have:=a.out;omega) (.slice (some ⟨g,0,none⟩) n cy))
 clear R B m J L M I H;refine ab _ _ ⟨fun _=>⟨F,E⟩,?_⟩
 refine jI (i:=7) (by kernel_rfl) ?_
 refine wpOp_step rfl (fun K3 Z=>?_)
 go_simp;refine Z _ _ ⟨fun h=>absurd h (by decide),?_⟩
 refine jI (i:=8) (by kernel_rfl) ?_
 refine wpOp_step rfl (fun K4 ad=>?_)
 go_simp;refine ad _ _ ⟨fun h=>absurd h (by decide),?_⟩
 refine jI (i:=9) (by kernel_rfl) ?_
 refine wpOp_step rfl (fun K5 bc=>?_)
 go_simp;refine bc _ _ ⟨fun h=>absurd h (by decide),?_⟩
 refine GH (by kernel_rfl) ?_
 clear U S F E z2 z3 D l;generalize (w4.setCell ⟨w.heap.size,2,none⟩ (.slice (some ⟨d,0,none⟩) n cx)).setCell ⟨w.heap.size,3,none⟩ (.slice (some ⟨g,0,none⟩) n cy)=w5 at *
 obtain⟨U,S,F,E⟩:=A.out.k.t;obtain⟨u1,u2,u3,u4,⟨e0,z0,y0⟩,⟨e1,z1,y1⟩,⟨e2,z2,y2⟩,⟨e3,z3,y3⟩,hZ,hB⟩:=bD (w.heap.size+1) base kind (.slice (some ⟨d,0,none⟩) n cx) (.slice (some ⟨g,0,none⟩) n cy) w5 A.out.z;have al:=hideS (A.out.bl.trans (hB.mono (by omega)))
 have bb:Hid (u4.ownsRow b.heap.size 3 1 (.slice (some ⟨d,0,none⟩) n cx) n (G.map kV)):=by
  show World.ownsRow _ _ _ _ _ _ _
  rw [<- e3,<- e2,<- e1,<- e0];exact aw (aw (aw (aw ba.out (by have:=a.out;omega) _) (by have:=a.out;omega) _) (by have:=a.out;omega) _) (by have:=a.out;omega) _
 have ai:Hid (u4.ownsRow b.heap.size 27 1 (.slice (some ⟨g,0,none⟩) n cy) n (N.map fV)):=by
  show World.ownsRow _ _ _ _ _ _ _
  rw [<- e3,<- e2,<- e1,<- e0];exact aw (aw (aw (aw X.out (by have:=a.out;omega) _) (by have:=a.out;omega) _) (by have:=a.out;omega) _) (by have:=a.out;omega) _
 obtain⟨s0,s1,s2,s3⟩:=hZ.t;clear hZ hB
 go_wp2_with fail
 refine bodyPost_ret (v:=.agg #[.int .i64 base,.int .i64 kind,.slice (some ⟨d,0,none⟩) n cx,.slice (some ⟨g,0,none⟩) n cy]) (by simp [results,Tryz.results39,go_sem,s0,s1,s2,s3]) rfl ?_
 exact⟨d,cx,g,cy,rfl,bS bb.out (by have:=a.out;omega),bS ai.out (by have:=a.out;omega),al.out⟩
theorem Eb {w:World} {B:Nat} {c:Cv} {b cx a cy k u:Nat} (h:OwnC w B c b cx a cy) (l:k<c.fs.length) (d:u<18446744073709551616) (g:b≠a):OwnC (w.setCell ⟨a,k,none⟩ (.float .f64 u)) B ⟨c.base,c.kind,c.ds,c.fs.set k u⟩ b cx a cy:=by
 have o:=World.ownsRow.stored h.y k (.float .f64 u);refine⟨ownsRow_setCell_other h.x (by intro e;simp [Value.ownBlock] at e;exact g e) _,?_,h.n,by show 0<(c.fs.set k u).length;rw [List.length_set];exact h.m,fun j i=>?_⟩
 ·show World.ownsRow _ _ _ _ (.slice (some ⟨a,0,none⟩) (c.fs.set k u).length cy) (c.fs.set k u).length ((c.fs.set k u).map fV)
  rw [List.length_set,List.map_set];exact o.1
 ·show (c.fs.set k u).getD j 0<_
  rw [getD_set l]
  split
  ·exact d
  ·exact h.f j (by have:(c.fs.set k u).length=c.fs.length:=List.length_set;rw [<- this];exact i)
theorem OwnC.ne {w:World} {B:Nat} {d:Cv} {b cx a cy:Nat} (h:OwnC w B d b cx a cy):b≠a:=wH h.x h.y (by decide)
theorem OwnC.lo {w:World} {B:Nat} {d:Cv} {b cx a cy:Nat} (h:OwnC w B d b cx a cy):B<=b/\B<=a:=⟨(h.x.lt b rfl).1,(h.y.lt a rfl).1⟩
theorem OwnC.hi {w:World} {B:Nat} {d:Cv} {b cx a cy:Nat} (h:OwnC w B d b cx a cy):b<w.heap.size/\a<w.heap.size:=⟨(h.x.lt b rfl).2,(h.y.lt a rfl).2⟩
theorem OwnC.cell {w:World} {B:Nat} {d:Cv} {c cx a cy k:Nat} (h:OwnC w B d c cx a cy) (b:k<d.fs.length):w.cell? ⟨a,k,none⟩=some (.float .f64 (d.fs.getD k 0))/\w.frozen? ⟨a,k,none⟩=false:=by
 have:=h.src.y.cell k b;rw [Nat.zero_add] at this
 exact⟨this,World.ownsRow.frozenAt h.y k⟩
theorem OwnC.far {w:World} {B b j:Nat} {d:Cv} {c cx a cy:Nat} (h:OwnC w B d c cx a cy) (i:c≠b) (g:a≠b) (x:Value):OwnC (w.setCell ⟨b,j,none⟩ x) B d c cx a cy:=
 ⟨ownsRow_setCell_other h.x (by intro e;simp [Value.ownBlock] at e;exact i e) _,ownsRow_setCell_other h.y (by intro e;simp [Value.ownBlock] at e;exact g e) _,h.n,h.m,h.f⟩
theorem uA {g u1 u2 u3 i:World} {B b:Nat} {d:Cv} {e cx f cy:Nat} {l j n q:Value} (h:OwnC g B d e cx f cy) (a:e≠b) (c:f≠b) (k:g.setCell ⟨b,0,none⟩ l=u1) (m:u1.setCell ⟨b,1,none⟩ j=u2) (o:u2.setCell ⟨b,2,none⟩ n=u3) (p:u3.setCell ⟨b,3,none⟩ q=i):OwnC i B d e cx f cy:=by
 rw [<- p,<- o,<- m,<- k];exact (((h.far a c _).far a c _).far a c _).far a c _
theorem GI (base kind E:Int) (i:Int) (h:Nat) (f j:Value) (w:World) (l:E≠0) (x:Hid (∀ g,Below w.heap.size w g->Calls Tryz.prog 37 #[.agg #[.int .i64 base,.int .i64 kind,f,j]] g fun e n=>e=.returned (.int .i64 E)/\Below g.heap.size g n)) :
  Calls Tryz.prog 18 #[.agg #[.int .i64 base,.int .i64 kind,f,j],.int .i64 i,.float .f64 h] w fun e n=>CvO w cv0 E e n:=by
 have I:(E !=0)=true:=bne_iff_ne.2 l;have D:=hideS l;clear l;have c:=hideS (iU w base kind (f) (j));obtain⟨p,a⟩:∃ p,(w.alloc (.cells #[.int .i64 base,.int .i64 kind,f,j] 26)).alloc ar=p:=⟨_,rfl⟩;rw [a] at c
 unfold ar at a
 obtain⟨r,o,s,u⟩:=c.out.k.t
 go_enter Tryz.func18,Tryz.ntmps18
 go_wp2_with fail
 clear a r o s u;refine (x.out _ c.out.bl).mono ?_
 rintro e B ⟨rfl,d⟩;have b:=hideS (c.out.step d);have T:=hideS c.out.sz;clear d x c;obtain⟨r,o,s,u⟩:=b.out.k.t;obtain⟨O,U,V,X,⟨J,W,S⟩,⟨N,L,Y⟩,⟨P,M,Q⟩,⟨R,K,H⟩,q,y⟩:=bD (w.heap.size+1) 0 0 (.slice none 0 0) (.slice none 0 0) B b.out.z;have m:=hideS (b.out.bl.trans (y.mono (by omega)))
 obtain⟨C,G,A,F⟩:=q.t;clear q y
 go_wp2_with fail
 refine bodyPost_ret (v:=.tuple #[.agg #[.int .i64 0,.int .i64 0,.slice none 0 0,.slice none 0 0],.int .i64 E]) (by simp [results,Tryz.results18,go_sem,C,G,A,F]) rfl ?_
 exact⟨fun _=>rfl,fun h=>absurd h D.out,m.out⟩
theorem GJ (base kind E:Int) (h:Nat) (f i:Value) (w:World) (j:E≠0) (u:Hid (∀ g,Below w.heap.size w g->Calls Tryz.prog 37 #[.agg #[.int .i64 base,.int .i64 kind,f,i]] g fun e m=>e=.returned (.int .i64 E)/\Below g.heap.size g m)) :
  Calls Tryz.prog 19 #[.agg #[.int .i64 base,.int .i64 kind,f,i],.float .f64 h] w fun e m=>CvO w cv0 E e m:=by
 have H:(E !=0)=true:=bne_iff_ne.2 j;have C:=hideS j;clear j;have c:=hideS (iU w base kind (f) (i));obtain⟨o,a⟩:∃ o,(w.alloc (.cells #[.int .i64 base,.int .i64 kind,f,i] 26)).alloc ar=o:=⟨_,rfl⟩;rw [a] at c
 unfold ar at a
 obtain⟨q,n,r,s⟩:=c.out.k.t
 go_enter Tryz.func19,Tryz.ntmps19
 go_wp2_with fail
 clear a q n r s;refine (u.out _ c.out.bl).mono ?_
 rintro e A ⟨rfl,d⟩;have b:=hideS (c.out.step d);have S:=hideS c.out.sz;clear d u c;obtain⟨q,n,r,s⟩:=b.out.k.t;obtain⟨N,T,U,W,⟨I,V,R⟩,⟨M,K,X⟩,⟨O,L,P⟩,⟨Q,J,G⟩,p,x⟩:=bD (w.heap.size+1) 0 0 (.slice none 0 0) (.slice none 0 0) A b.out.z;have l:=hideS (b.out.bl.trans (x.mono (by omega)))
 obtain⟨B,F,y,D⟩:=p.t;clear p x
 go_wp2_with fail
 refine bodyPost_ret (v:=.tuple #[.agg #[.int .i64 0,.int .i64 0,.slice none 0 0,.slice none 0 0],.int .i64 E]) (by simp [results,Tryz.results19,go_sem,B,F,y,D]) rfl ?_
 exact⟨fun _=>rfl,fun h=>absurd h C.out,l.out⟩
theorem GK (base kind i:Int) (h n m bd q p g j l:Nat) (w:World) (hi:¬ (0<=i/\i<(n:Int))) (H:Hid (∀ o,Below w.heap.size w o->Calls Tryz.prog 37 #[.agg #[.int .i64 base,.int .i64 kind,.slice (some ⟨bd,q,none⟩) n p,.slice (some ⟨g,j,none⟩) m l]] o fun e r=>e=.returned (.int .i64 0)/\Below o.heap.size o r)) :
  Calls Tryz.prog 18 #[.agg #[.int .i64 base,.int .i64 kind,.slice (some ⟨bd,q,none⟩) n p,.slice (some ⟨g,j,none⟩) m l],.int .i64 i,.float .f64 h] w fun e r=>CvO w cv0 1 e r:=by
 have C:Hid ((1:Int)≠0):=by show _≠_;decide
 have c:=hideS (iU w base kind (.slice (some ⟨bd,q,none⟩) n p) (.slice (some ⟨g,j,none⟩) m l));obtain⟨x,a⟩:∃ x,(w.alloc (.cells #[.int .i64 base,.int .i64 kind,.slice (some ⟨bd,q,none⟩) n p,.slice (some ⟨g,j,none⟩) m l] 26)).alloc ar=x:=⟨_,rfl⟩;rw [a] at c
 unfold ar at a
 obtain⟨B,u,F,G⟩:=c.out.k.t
 go_enter Tryz.func18,Tryz.ntmps18
 go_wp2_with fail
 clear a B u F G;refine (H.out _ c.out.bl).mono ?_
 rintro e J ⟨rfl,d⟩;have b:=hideS (c.out.step d);have X:=hideS c.out.sz;clear d H c;obtain⟨B,u,F,G⟩:=b.out.k.t;obtain⟨S,Y,Z,u4,⟨N,z0,W⟩,⟨R,P,y1⟩,⟨T,Q,U⟩,⟨V,O,K⟩,y,I⟩:=bD (w.heap.size+1) 0 0 (.slice none 0 0) (.slice none 0 0) J b.out.z;have f:=hideS (b.out.bl.trans (I.mono (by omega)))
 obtain⟨A,E,s,D⟩:=y.t;clear y I
 by_cases M:i<0
 ·clear hi
  go_wp2_with fail
  refine bodyPost_ret (v:=.tuple #[.agg #[.int .i64 0,.int .i64 0,.slice none 0 0,.slice none 0 0],.int .i64 1]) (by simp [results,Tryz.results18,go_sem,A,E,s,D]) rfl ?_
  exact⟨fun _=>rfl,fun h=>absurd h C.out,f.out⟩
 ·have L:(n:Int)<=i:=by omega
  clear hi
  go_wp2_with fail
  refine bodyPost_ret (v:=.tuple #[.agg #[.int .i64 0,.int .i64 0,.slice none 0 0,.slice none 0 0],.int .i64 1]) (by simp [results,Tryz.results18,go_sem,A,E,s,D]) rfl ?_
  exact⟨fun _=>rfl,fun h=>absurd h C.out,f.out⟩
theorem GL (base kind E:Int) (k h U n m bd r q i l o:Nat) (w:World) (hk:k<n) (u:E≠0) (G:Hid (∀ a,Below w.heap.size w a->Calls Tryz.prog 37 #[.agg #[.int .i64 base,.int .i64 kind,.slice (some ⟨bd,r,none⟩) n q,.slice (some ⟨i,l,none⟩) m o]] a fun e p=>e=.returned (.int .i64 0)/\Below a.heap.size a p)) (F:Hid (∀ a,Below w.heap.size w a->Calls Tryz.prog 38 #[.agg #[.int .i64 base,.int .i64 kind,.slice (some ⟨bd,r,none⟩) n q,.slice (some ⟨i,l,none⟩) m o],.int .i64 (k:Nat),.float .f64 h] a fun e p=>e=.returned (.tuple #[.float .f64 U,.int .i64 E])/\Below a.heap.size a p)) :
  Calls Tryz.prog 18 #[.agg #[.int .i64 base,.int .i64 kind,.slice (some ⟨bd,r,none⟩) n q,.slice (some ⟨i,l,none⟩) m o],.int .i64 (k:Nat),.float .f64 h] w fun e p=>CvO w cv0 E e p:=by
 have P:(E !=0)=true:=bne_iff_ne.2 u;have L:=hideS u;clear u;have d:=hideS (iU w base kind (.slice (some ⟨bd,r,none⟩) n q) (.slice (some ⟨i,l,none⟩) m o));obtain⟨C,b⟩:∃ C,(w.alloc (.cells #[.int .i64 base,.int .i64 kind,.slice (some ⟨bd,r,none⟩) n q,.slice (some ⟨i,l,none⟩) m o] 26)).alloc ar=C:=⟨_,rfl⟩;rw [b] at d
 unfold ar at b
 obtain⟨y,s,A,B⟩:=d.out.k.t
 go_enter Tryz.func18,Tryz.ntmps18
 go_wp2_with fail
 clear b y s A B;refine (G.out _ d.out.bl).mono ?_
 rintro e S ⟨rfl,j⟩;have c:=hideS (d.out.step j);have HS:=hideS d.out.sz;clear j G d;obtain⟨y,s,A,B⟩:=c.out.k.t;have Y:¬ (k:Int)<0:=by omega
 have X:¬ (n:Int)<=(k:Int):=by omega
 go_wp2_with fail
 refine (F.out _ c.out.bl).mono ?_
 rintro e J ⟨rfl,f⟩;have g:=hideS (c.out.step f);clear f F y s A B;obtain⟨Z,u2,u3,u4,⟨Q,z0,y0⟩,⟨W,T,y1⟩,⟨e2,V,y2⟩,⟨e3,R,O⟩,D,H⟩:=bD (w.heap.size+1) 0 0 (.slice none 0 0) (.slice none 0 0) J g.out.z;have x:=hideS (g.out.bl.trans (H.mono (by omega)))
 obtain⟨K,N,I,M⟩:=D.t;clear D H
 go_wp2_with fail
 refine bodyPost_ret (v:=.tuple #[.agg #[.int .i64 0,.int .i64 0,.slice none 0 0,.slice none 0 0],.int .i64 E]) (by simp [results,Tryz.results18,go_sem,K,N,I,M]) rfl ?_
 exact⟨fun _=>rfl,fun h=>absurd h L.out,x.out⟩
theorem LC (c:Cv) (base kind:Int) (k h U n bd y x A u r:Nat) (w:World) (hk:k<n) (E:c.base=base) (M:c.kind=kind) (K:c.ds.length=n) (R:c.fs.length=n) (hU:U<18446744073709551616) (HC:Hid (∀ b,Below w.heap.size w b->Calls Tryz.prog 37 #[.agg #[.int .i64 base,.int .i64 kind,.slice (some ⟨bd,y,none⟩) n x,.slice (some ⟨A,u,none⟩) n r]] b fun e l=>e=.returned (.int .i64 0)/\Below b.heap.size b l)) (HF:Hid (∀ b,Below w.heap.size w b->Calls Tryz.prog 38 #[.agg #[.int .i64 base,.int .i64 kind,.slice (some ⟨bd,y,none⟩) n x,.slice (some ⟨A,u,none⟩) n r],.int .i64 (k:Nat),.float .f64 h] b fun e l=>e=.returned (.tuple #[.float .f64 U,.int .i64 0])/\Below b.heap.size b l)) (HO:Hid (∀ b,Below w.heap.size w b->Calls Tryz.prog 39 #[.agg #[.int .i64 base,.int .i64 kind,.slice (some ⟨bd,y,none⟩) n x,.slice (some ⟨A,u,none⟩) n r]] b fun e l=>(∃ g cx a cy,e=.returned (.agg #[.int .i64 base,.int .i64 kind,.slice (some ⟨g,0,none⟩) n cx,.slice (some ⟨a,0,none⟩) n cy])/\OwnC l b.heap.size c g cx a cy)/\Below b.heap.size b l)) :
  Calls Tryz.prog 18 #[.agg #[.int .i64 base,.int .i64 kind,.slice (some ⟨bd,y,none⟩) n x,.slice (some ⟨A,u,none⟩) n r],.int .i64 (k:Nat),.float .f64 h] w fun e l=>CvO w ⟨c.base,c.kind,c.ds,c.fs.set k U⟩ 0 e l:=by
 have ab:=hideS E;have ad:=hideS M;have ba:=hideS K;have B:=hideS R;have HU:=hideS hU;clear E M K R hU;have C:=hideS (iU w base kind (.slice (some ⟨bd,y,none⟩) n x) (.slice (some ⟨A,u,none⟩) n r));obtain⟨w2,q⟩:∃ w2,(w.alloc (.cells #[.int .i64 base,.int .i64 kind,.slice (some ⟨bd,y,none⟩) n x,.slice (some ⟨A,u,none⟩) n r] 26)).alloc ar=w2:=⟨_,rfl⟩;rw [q] at C
 unfold ar at q
 obtain⟨L,J,T,N⟩:=C.out.k.t
 go_enter Tryz.func18,Tryz.ntmps18
 go_wp2_with fail
 clear q L J T N;refine (HC.out _ C.out.bl).mono ?_
 rintro e w3 ⟨rfl,Q⟩;have i:=hideS (C.out.step Q);have HS:=hideS C.out.sz;clear Q HC C;obtain⟨L,J,T,N⟩:=i.out.k.t;have g1:¬ (k:Int)<0:=by omega
 have g2:¬ (n:Int)<=(k:Int):=by omega
 go_wp2_with fail
 refine (HF.out _ i.out.bl).mono ?_
 rintro e w4 ⟨rfl,H⟩;have d:=hideS (i.out.step H);clear H HF L J T N;obtain⟨L,J,T,N⟩:=d.out.k.t
 go_wp2_with fail
 refine (HO.out _ d.out.bl).mono ?_
 rintro e j ⟨⟨g,cx,a,cy,rfl,I⟩,P⟩;have D:=hideS (d.out.step P);have Y:=hideS I.lo;have HH:=hideS I.hi;have Z:=hideS I.ne;have f:=hideS d.out.sz;obtain⟨u1,u2,u3,V,⟨e0,z0,y0⟩,⟨e1,z1,y1⟩,⟨e2,z2,y2⟩,⟨e3,z3,y3⟩,hZ,hB⟩:=bD j.heap.size base kind (.slice (some ⟨g,0,none⟩) n cx) (.slice (some ⟨a,0,none⟩) n cy) (j.alloc ar) (heap_alloc_new _ _);have o:Below j.heap.size j V:=((Below.refl _ j).alloc (Nat.le_refl _) ar).trans hB;have s:=hideS (I.below o);have G:=hideS (D.out.step o);obtain⟨q1,q2⟩:=s.out.cell (k:=k) (by rw [B.out];exact hk)
 have W:=hideS (Eb s.out (by rw [B.out];exact hk) HU.out Z.out)
 have m:Hid (CpB w base kind (.slice (some ⟨bd,y,none⟩) n x) (.slice (some ⟨A,u,none⟩) n r) (V.setCell ⟨a,k,none⟩ (.float .f64 U))):=G.out.stay ((Below.refl a V).setCell (p:=⟨a,k,none⟩) (Nat.le_refl _) _) (by have:=Y.out.2;have:=f.out;omega)
 have S:Hid (BxK (V.setCell ⟨a,k,none⟩ (.float .f64 U)) j.heap.size base kind (.slice (some ⟨g,0,none⟩) n cx) (.slice (some ⟨a,0,none⟩) n cy)):=⟨by
  rw [Below.heap_setCell _ ⟨a,k,none⟩ _ _ (by show j.heap.size≠a;have:=HH.out.2;omega)];exact hZ.blk⟩
 obtain⟨w6,X⟩:∃ w6,j.alloc ar=w6:=⟨_,rfl⟩;rw [X] at e0 z0 y0
 unfold ar at X
 obtain⟨s0,s1,s2,s3⟩:=hZ.t;obtain⟨w7,al⟩:∃ w7,V.setCell ⟨a,k,none⟩ (.float .f64 U)=w7:=⟨_,rfl⟩;rw [al] at W m S
 obtain⟨x0,x1,x2,x3⟩:=S.out.t;obtain⟨v1,v2,v3,v4,⟨f0,a0,b0⟩,⟨f1,a1,b1⟩,⟨f2,a2,bc⟩,⟨f3,a3,b3⟩,F,O⟩:=bD (w.heap.size+1) base kind (.slice (some ⟨g,0,none⟩) n cx) (.slice (some ⟨a,0,none⟩) n cy) w7 m.out.z;have am:=hideS (uA W.out (by have:=Y.out.1;have:=f.out;omega) (by have:=Y.out.2;have:=f.out;omega) f0 f1 f2 f3)
 have ai:=hideS (m.out.bl.trans (O.mono (by omega)))
 obtain⟨r0,r1,r2,r3⟩:=F.t;have bb:=bJ;have g3:(0:Int)<=(k:Int):=by omega
 have g4:(k:Int)<(n:Int):=by omega
 clear I P HO L J T N hZ hB o F O D G d i s
 go_wp2_with fail
 refine bodyPost_ret (v:=.tuple #[.agg #[.int .i64 base,.int .i64 kind,.slice (some ⟨g,0,none⟩) n cx,.slice (some ⟨a,0,none⟩) n cy],.int .i64 0]) (by simp [results,Tryz.results18,go_sem,r0,r1,r2,r3]) rfl ?_
 refine⟨fun h=>absurd rfl h,fun _=>⟨g,cx,a,cy,?_,am.out.mono (by have:=f.out;omega)⟩,ai.out⟩
 show Ending.returned _=Ending.returned (.tuple #[.agg #[.int .i64 c.base,.int .i64 c.kind,.slice (some ⟨g,0,none⟩) c.ds.length cx,.slice (some ⟨a,0,none⟩) (c.fs.set k U).length cy],.int .i64 0])
 rw [List.length_set,ab.out,ad.out,ba.out,B.out]
structure PaI (w:World) (base kind:Int) (vd vf:Value) (B D:Nat) (n gx cx gy cy:Nat) (c:Cv) (h k:Nat) (wr:World):Prop where
 cp:CpB w base kind vd vf wr
 bx:BxK wr B base kind (.slice (some ⟨gx,0,none⟩) n cx) (.slice (some ⟨gy,0,none⟩) n cy)
 own:OwnC wr D ⟨c.base,c.kind,c.ds,c.parL h k⟩ gx cx gy cy
theorem PaI.step {w wr e:World} {base kind:Int} {d g:Value} {B D n b cx f cy:Nat} {c:Cv} {h k:Nat} (H:PaI w base kind d g B D n b cx f cy c h k wr) (a:Below wr.heap.size wr e):PaI w base kind d g B D n b cx f cy c h k e:=⟨H.cp.step a,H.bx.step a,H.own.below a⟩
theorem PaI.put {w wr:World} {base kind:Int} {d f:Value} {B D n b cx a cy:Nat} {c:Cv} {h k:Nat} (H:PaI w base kind d f B D n b cx a cy c h k wr) (i:k<c.fs.length) (g:c.bm k h<18446744073709551616) (l:w.heap.size+2<=D) (j:a≠B):PaI w base kind d f B D n b cx a cy c h (k+1) (wr.setCell ⟨a,k,none⟩ (.float .f64 (c.bm k h))):=by
 refine⟨H.cp.stay ((Below.refl a wr).setCell (p:=⟨a,k,none⟩) (Nat.le_refl _) _) (by have:=H.own.lo.2;omega),⟨?_⟩,Eb H.own (by show k<(c.parL h k).length;rw [eJ];exact i) g H.own.ne⟩
 rw [Below.heap_setCell _ ⟨a,k,none⟩ _ _ (by show B≠a;exact fun e=>j e.symm)];exact H.bx.blk
theorem GM (c:Cv) (base kind:Int) (h n bd y x A u s:Nat) (w:World) (hn:n<=255) (O:c.base=base) (T:c.kind=kind) (S:c.ds.length=n) (ad:c.fs.length=n) (Q:∀ k<n,bmE c k h=0->bmV c k h=c.bm k h/\c.bm k h<18446744073709551616) (ai:∀ k<n,bmE c k h≠0->bmE c k h=91)
  (HC:Hid (∀ a,Below w.heap.size w a->Calls Tryz.prog 37 #[.agg #[.int .i64 base,.int .i64 kind,.slice (some ⟨bd,y,none⟩) n x,.slice (some ⟨A,u,none⟩) n s]] a fun e q=>e=.returned (.int .i64 0)/\Below a.heap.size a q))
  (HF:Hid (∀ k<n,∀ a,Below w.heap.size w a->Calls Tryz.prog 38 #[.agg #[.int .i64 base,.int .i64 kind,.slice (some ⟨bd,y,none⟩) n x,.slice (some ⟨A,u,none⟩) n s],.int .i64 (k:Nat),.float .f64 h] a fun e q=>e=.returned (.tuple #[.float .f64 (bmV c k h),.int .i64 (bmE c k h)])/\Below a.heap.size a q))
  (HO:Hid (∀ a,Below w.heap.size w a->Calls Tryz.prog 39 #[.agg #[.int .i64 base,.int .i64 kind,.slice (some ⟨bd,y,none⟩) n x,.slice (some ⟨A,u,none⟩) n s]] a fun e q=>(∃ g cx l cy,e=.returned (.agg #[.int .i64 base,.int .i64 kind,.slice (some ⟨g,0,none⟩) n cx,.slice (some ⟨l,0,none⟩) n cy])/\OwnC q a.heap.size c g cx l cy)/\Below a.heap.size a q)) :
  Calls Tryz.prog 19 #[.agg #[.int .i64 base,.int .i64 kind,.slice (some ⟨bd,y,none⟩) n x,.slice (some ⟨A,u,none⟩) n s],.float .f64 h] w fun e q=>((∃ k<n,bmE c k h≠0)/\CvO w cv0 91 e q)\/((∀ k<n,bmE c k h=0)/\CvO w (c.para h) 0 e q):=by
 have bi:=hideS O;have bk:=hideS T;have am:=hideS S;have M:=hideS ad;have HU:=hideS Q;have bc:=hideS ai;clear O T S ad Q ai;have R:=hideS (iU w base kind (.slice (some ⟨bd,y,none⟩) n x) (.slice (some ⟨A,u,none⟩) n s));obtain⟨w2,G⟩:∃ w2,(w.alloc (.cells #[.int .i64 base,.int .i64 kind,.slice (some ⟨bd,y,none⟩) n x,.slice (some ⟨A,u,none⟩) n s] 26)).alloc ar=w2:=⟨_,rfl⟩;rw [G] at R
 unfold ar at G
 obtain⟨H,F,K,I⟩:=R.out.k.t
 go_enter Tryz.func19,Tryz.ntmps19
 go_wp2_with fail
 clear G H F K I;refine (HC.out _ R.out.bl).mono ?_
 rintro e w3 ⟨rfl,ab⟩;have o:=hideS (R.out.step ab);have HS:=hideS o.out.sz;clear ab HC R;obtain⟨H,F,K,I⟩:=o.out.k.t
 go_wp2_with fail
 refine (HO.out _ o.out.bl).mono ?_
 rintro e p ⟨⟨g,cx,l,cy,rfl,E⟩,X⟩;have N:=hideS (o.out.step X);have HL:=hideS E.lo;have HH:=hideS E.hi;obtain⟨u1,u2,u3,u4,⟨e0,z0,y0⟩,⟨e1,z1,y1⟩,⟨e2,z2,y2⟩,⟨e3,z3,y3⟩,Y,hB⟩:=bD p.heap.size base kind (.slice (some ⟨g,0,none⟩) n cx) (.slice (some ⟨l,0,none⟩) n cy) (p.alloc ar) (heap_alloc_new _ _);have C:Below p.heap.size p u4:=((Below.refl _ p).alloc (Nat.le_refl _) ar).trans hB;have f:Hid (PaI w base kind (.slice (some ⟨bd,y,none⟩) n x) (.slice (some ⟨A,u,none⟩) n s) p.heap.size w3.heap.size n g cx l cy c h 0 u4):=⟨N.out.step C,Y,E.below C⟩;have bh:Hid (g≠p.heap.size/\l≠p.heap.size):=⟨Nat.ne_of_lt HH.out.1,Nat.ne_of_lt HH.out.2⟩;obtain⟨w6,L⟩:∃ w6,p.alloc ar=w6:=⟨_,rfl⟩;rw [L] at e0 z0 y0
 unfold ar at L
 clear H F K I;obtain⟨H,F,K,I⟩:=f.out.cp.k.t;clear E X HO Y hB C N o HH
 go_wp2_with fail
 clear L e0 z0 y0 e1 z1 y1 e2 z2 y2 e3 z3 y3 H F K I;generalize p.heap.size=B at *
 generalize w3.heap.size=D at *
 go_loopw [8,9,10,22] (fun _ _ _ i wr=>∃ k:Nat,k<=n/\i=.int .i64 k/\Hid (∀ j<k,bmE c j h=0)/\Hid (PaI w base kind (.slice (some ⟨bd,y,none⟩) n x) (.slice (some ⟨A,u,none⟩) n s) B D n g cx l cy c h k wr)) (fun _ _ _ i _=>n - (intOf i).toNat)
 case atStart=>exact⟨0,Nat.zero_le _,rfl,fun j hj=>by omega,f⟩
 case round=>
  clear f;obtain⟨k,hk,rfl,Z,f⟩:=hrel
  by_cases b:k<n
  ·obtain⟨H,F,K,I⟩:=f.out.cp.k.t;have ba:=hideS (HF.out k b)
   go_wp2_with fail
   refine (ba.out _ f.out.cp.bl).mono ?_
   rintro e w7 ⟨rfl,V⟩;have m:=hideS (f.out.step V);clear V ba f H F K I
   by_cases r:bmE c k h=0
   ·obtain⟨hV,Q⟩:=HU.out k b r;have HP:=hideS (m.out.put (by rw [M.out];exact b) Q HS.out bh.out.2)
    have bb:Hid (∀ j<k+1,bmE c j h=0):=fun j hj=>by
     rcases Nat.lt_or_eq_of_le (Nat.le_of_lt_succ hj) with d | d
     ·exact Z.out j d
     ·rw [d];exact r
    obtain⟨q1,q2⟩:=m.out.own.cell (k:=k) (by show k<(c.parL h k).length;rw [eJ,M.out];exact b)
    obtain⟨s0,s1,s2,s3⟩:=m.out.bx.t;have br:=bJ;have g3:(0:Int)<=(k:Int):=by omega
    have g4:(k:Int)<(n:Int):=by omega
    rw [r,hV];clear r hV Q;generalize c.bm k h=U at *
    go_wp2_with fail
    go_roundw
    case rel=>exact⟨k+1,by omega,by simp,bb,HP⟩
    case measure=>simp [intOf];omega
   ·have dE:(bmE c k h !=0)=true:=bne_iff_ne.2 r;obtain⟨u1,u2,u3,u4,⟨e0,z0,y0⟩,⟨e1,z1,y1⟩,⟨e2,z2,y2⟩,⟨e3,z3,y3⟩,Y,hB⟩:=bD (w.heap.size+1) 0 0 (.slice none 0 0) (.slice none 0 0) w7 m.out.cp.z;have J:=hideS (m.out.cp.bl.trans (hB.mono (by omega)))
    obtain⟨s0,s1,s2,s3⟩:=Y.t;have HE:Hid (∃ k<n,bmE c k h≠0):=⟨k,b,r⟩;have al:=bc.out k b r;rw [al] at dE ⊢
    clear Y hB r al
    go_wp2_with fail
    refine bodyPost_ret (v:=.tuple #[.agg #[.int .i64 0,.int .i64 0,.slice none 0 0,.slice none 0 0],.int .i64 91]) (by simp [results,Tryz.results19,go_sem,s0,s1,s2,s3]) rfl ?_
    exact Or.inl ⟨HE.out,fun _=>rfl,fun h=>absurd h (by decide),J.out⟩
  ·obtain rfl:k=n:=by omega
   obtain⟨s0,s1,s2,s3⟩:=f.out.bx.t;obtain⟨v1,v2,v3,v4,⟨f0,a0,b0⟩,⟨f1,a1,b1⟩,⟨f2,a2,bs⟩,⟨f3,a3,b3⟩,P,W⟩:=bD (w.heap.size+1) base kind (.slice (some ⟨g,0,none⟩) k cx) (.slice (some ⟨l,0,none⟩) k cy) wr f.out.cp.z;have bo:=hideS (uA f.out.own (by have:=HL.out.1;have:=HS.out;omega) (by have:=HL.out.2;have:=HS.out;omega) f0 f1 f2 f3)
   have J:=hideS (f.out.cp.bl.trans (W.mono (by omega)))
   obtain⟨r0,r1,r2,r3⟩:=P.t;clear P W
   go_wp2_with fail
   refine bodyPost_ret (v:=.tuple #[.agg #[.int .i64 base,.int .i64 kind,.slice (some ⟨g,0,none⟩) k cx,.slice (some ⟨l,0,none⟩) k cy],.int .i64 0]) (by simp [results,Tryz.results19,go_sem,r0,r1,r2,r3]) rfl ?_
   have E:=bo.out;rw [<- am.out] at E
   refine Or.inr ⟨Z.out,fun h=>absurd rfl h,fun _=>⟨g,cx,l,cy,?_,E.mono (by have:=HS.out;omega)⟩,J.out⟩
   show Ending.returned _=Ending.returned (.tuple #[.agg #[.int .i64 c.base,.int .i64 c.kind,.slice (some ⟨g,0,none⟩) c.ds.length cx,.slice (some ⟨l,0,none⟩) (c.parL h c.ds.length).length cy],.int .i64 0])
   rw [eJ,bi.out,bk.out,am.out,M.out]
theorem LD {c:Cv} {k h:Nat} (f:c.Ok) (e:c.Fit) (d:k<c.ds.length) (b:bmE c k h=0):bmB c k h=true/\bmV c k h=c.bm k h/\c.bm k h<18446744073709551616:=by
 have a:bmB c k h=true:=by
  cases a:bmB c k h with
  | true=>rfl
  | false=>unfold bmE at b;rw [a] at b;exact absurd b (by decide)
 refine⟨a,by unfold bmV;rw [if_pos a],(uv f e d (bt (rL a).2)).2.2.1⟩
theorem bmE_cases (c:Cv) (k h:Nat):(bmB c k h=true/\bmE c k h=0)\/(bmB c k h=false/\bmE c k h=91):=by
 unfold bmE;cases bmB c k h
 ·exact Or.inr ⟨rfl,rfl⟩
 ·exact Or.inl ⟨rfl,rfl⟩
theorem rP (c:Cv) (bd j p g h n:Nat) (w:World) (i:c.Ok) (o:TFl w (some ⟨bd,j,none⟩) (some ⟨g,h,none⟩) bd j g h c.ds c.fs):∀ a,Below w.heap.size w a->Calls Tryz.prog 39 #[.agg #[.int .i64 c.base,.int .i64 c.kind,.slice (some ⟨bd,j,none⟩) c.ds.length p,.slice (some ⟨g,h,none⟩) c.ds.length n]] a fun e l=>(∃ d cx k cy,e=.returned (.agg #[.int .i64 c.base,.int .i64 c.kind,.slice (some ⟨d,0,none⟩) c.ds.length cx,.slice (some ⟨k,0,none⟩) c.ds.length cy])/\OwnC l a.heap.size c d cx k cy)/\Below a.heap.size a l:=fun a t=>by
 have m:=i.len;have u:=i.lo;have b:=o.below t;refine (CB c.base c.kind bd j p g h n c.ds.length c.ds c.fs a b.x (by rw [<- m];exact b.y) rfl m i.lo i.hi).mono ?_
 rintro e l ⟨d,cx,k,cy,rfl,s,r,q⟩;exact⟨⟨d,cx,k,cy,rfl,s,by rw [m];exact r,by omega,by omega,o.f⟩,q⟩
theorem uB (c d:Cv) (i:Int) (h:Nat) (E:Int) (z A:Option Addr) (bd o n g j l:Nat) (w:World) (F:BmpR c i h d E) (D:h<18446744073709551616) (a:TFl w z A bd o g j c.ds c.fs) :
  Calls Tryz.prog 18 #[.agg #[.int .i64 c.base,.int .i64 c.kind,.slice z c.ds.length n,.slice A c.fs.length l],.int .i64 i,.float .f64 h] w fun e H=>CvO w d E e H:=by
 have u:∀ E,c.Chk E->∀ m,Below w.heap.size w m->_:=fun E v m (b:Below w.heap.size w m)=>dG c.base c.kind z A bd o n g j l c.ds c.fs m (a.below b) (E:=E) v
 cases F with
 | chk E K v=>exact GI c.base c.kind E i h _ _ w v (u E K)
 | arg ok hi=>
  have r:=ok.len;have J:=ok.lo;have s:=a.x.at_ (by omega)
  have q:=a.y.at_ (by omega)
  subst s q;exact GK c.base c.kind i h c.ds.length c.fs.length bd o n g j l w hi (u 0 (.ok ok))
 | val ok k p e b=>
  have r:=ok.len;have s:=a.x.at_ (by omega)
  have q:=a.y.at_ (by omega)
  subst s q e;have B:bmE c k h=91:=by unfold bmE;rw [b];rfl
  refine GL c.base c.kind 91 k h (bmV c k h) c.ds.length c.fs.length bd o n g j l w p (by decide) (u 0 (.ok ok)) (fun m b=>?_)
  have:=kY c k h _ _ bd o n g j l m ok p D (a.below b);rw [B] at this;exact this
 | ok ok k p e b=>
  have r:=ok.len;have s:=a.x.at_ (by omega)
  have q:=a.y.at_ (by omega)
  subst s q e;have C:bmE c k h=0:=by unfold bmE;rw [b];rfl
  obtain⟨_,G,I⟩:=LD ok a.f p C;have t:=u 0 (.ok ok);rw [r] at t ⊢
  refine LC c c.base c.kind k h (c.bm k h) c.ds.length bd o n g j l w p rfl rfl rfl r I t (fun m b=>?_) (rP c bd o n g j l w ok a)
  have:=kY c k h _ _ bd o n g j l m ok p D (a.below b);rw [C,G,r] at this;exact this
theorem uC (c d:Cv) (h:Nat) (E:Int) (v z:Option Addr) (bd t p r s l:Nat) (w:World) (D:ParR c h d E) (J:h<18446744073709551616) (m:TFl w v z bd t r s c.ds c.fs) :
  Calls Tryz.prog 19 #[.agg #[.int .i64 c.base,.int .i64 c.kind,.slice v c.ds.length p,.slice z c.fs.length l],.float .f64 h] w fun e n=>CvO w d E e n:=by
 have C:∀ E,c.Chk E->∀ o,Below w.heap.size w o->_:=fun E i o (j:Below w.heap.size w o)=>dG c.base c.kind v z bd t p r s l c.ds c.fs o (m.below j) (E:=E) i
 have q:∀ ok:c.Ok,Calls Tryz.prog 19 #[.agg #[.int .i64 c.base,.int .i64 c.kind,.slice v c.ds.length p,.slice z c.fs.length l],.float .f64 h] w fun e n=>((∃ k<c.ds.length,bmE c k h≠0)/\CvO w cv0 91 e n)\/((∀ k<c.ds.length,bmE c k h=0)/\CvO w (c.para h) 0 e n):=fun ok=>by
  have B:=ok.len;have G:=ok.lo;have H:=m.x.at_ (by omega)
  have F:=m.y.at_ (by omega)
  subst H F;have u:=C 0 (.ok ok);rw [B] at u ⊢
  refine GM c c.base c.kind h c.ds.length bd t p r s l w ok.hi rfl rfl rfl B (fun k g i=>(LD ok m.f g i).2) (fun k g i=>?_) u (fun k g o j=>?_) (rP c bd t p r s l w ok m)
  ·rcases bmE_cases c k h with a | a
   ·exact absurd a.2 i
   ·exact a.2
  ·have:=kY c k h _ _ bd t p r s l o ok g J (m.below j);rw [B] at this;exact this
 cases D with
 | chk E I i=>exact GJ c.base c.kind E h _ _ w i (C E I)
 | val ok k g j=>
  refine (q ok).mono fun e n b=>?_
  rcases b with b | b
  ·exact b.2
  ·have:=b.1 k g;unfold bmE at this
   rw [j] at this
   exact absurd this (by decide)
 | ok ok j=>
  refine (q ok).mono fun e n b=>?_
  rcases b with⟨⟨k,g,A⟩,_⟩| b
  ·exfalso
   unfold bmE at A
   rw [j k g] at A
   exact A rfl
  ·exact b.2
structure YrD (P:Int) (T:Nat) (np nq:Bool) (X Y:Nat):Prop where
 w1:∀ wx,Calls Tryz.prog 62 #[.int .i64 P] wx fun e w'=>∃ v,e=.returned (.agg #[.bool np,v,.int .i64 0])/\DN w' v X/\Below wx.heap.size wx w'
 w2:∀ wx,Calls Tryz.prog 62 #[.int .i64 365] wx fun e w'=>∃ v,e=.returned (.agg #[.bool nq,v,.int .i64 0])/\DN w' v Y/\Below wx.heap.size wx w'
 w3:∀ vx vy wx,DN wx vx X->DN wx vy Y->Calls Tryz.prog 61 #[.agg #[.bool np,vx,.int .i64 0],.agg #[.bool nq,vy,.int .i64 0]] wx fun e w'=>e=.returned (.int .u64 (T:Int))/\Below wx.heap.size wx w'
theorem Qp {base d:Int} (h:base<d) (i:d - base<=109572):∃ f nq X Y,YrD (d - base) (rkT base d) f nq X Y:=
 ⟨_,_,_,_,fun a=>jR _ a (by omega) (by omega),fun a=>jR 365 a (by omega) (by omega),fun g b a e c=>by
  have:=Gt (d - base) 365 (decide ((365:Int)<0)) g b a e c (by omega) (by omega) (by omega) (by omega)
  rw [Ql (by omega) (by omega)] at this
  exact this⟩
structure FcD (T h f m fm x u:Nat):Prop where
 m1:∀ wx,Calls Tryz.prog 63 #[.int .u64 (h:Int),.int .u64 (T:Int)] wx fun e w'=>e=.returned (.int .u64 (m:Int))/\Below wx.heap.size wx w'
 m2:∀ wx,Calls Tryz.prog 34 #[.int .u64 (m:Int)] wx fun e w'=>e=.returned (.int .u64 (fm:Int))/\wx=w'
 m3:∀ wx,Calls Tryz.prog 64 #[.int .u64 (fm:Int)] wx fun e w'=>e=.returned (.int .u64 (x:Int))/\Below wx.heap.size wx w'
 m4:∀ wx,Calls Tryz.prog 63 #[.int .u64 (f:Int),.int .u64 (x:Int)] wx fun e w'=>e=.returned (.int .u64 (u:Int))/\Below wx.heap.size wx w'
theorem Qq {c:Cv} {k h:Nat} (e:c.Ok) (g:c.Fit) (f:k<c.ds.length) (t:h<18446744073709551616) (hn:ag h):∃ m s x,FcD (rkT c.base (c.ds.getD k 0)) h (c.fs.getD k 0) m s x (c.bm k h):=by
 obtain⟨o,v⟩:=e.day f;have u:=e.b0;obtain⟨r,j⟩:=ph o (by omega)
 obtain⟨m,q,b,n,l⟩:=Ct (base:=c.base) (d:=c.ds.getD k 0) hn r;obtain⟨_,p,_,_,_⟩:=uv e g f hn;have i:=g k (by rw [e.len];exact f)
 refine⟨m,flipN m,rkX c.base (c.ds.getD k 0) h,fun a=>?_,fun a=>dQ m m _ a rfl (af b) rfl,fun a=>?_,fun a=>?_⟩
 ·have:=cX h (rkT c.base (c.ds.getD k 0)) _ _ a rfl rfl (af t) (af j);rw [q,ao] at this
  exact this
 ·have:=(ck (bM b).1).doc a;rw [n,ao] at this
  exact this
 ·have:=cX (c.fs.getD k 0) (rkX c.base (c.ds.getD k 0) h) _ _ a rfl rfl (af i) (af (by omega))
  rw [p,ao] at this
  exact this
noncomputable def bqV (c:Cv) (i j h k:Nat):Nat:=if i<=k/\k<j then c.bm k h else c.fs.getD k 0
noncomputable def bqL (c:Cv) (i j h n:Nat):List Nat:=(List.range n).map (bqV c i j h)
theorem LE (c:Cv) (i j h k:Nat):bqL c i j h (k+1)=bqL c i j h k++[bqV c i j h k]:=by
 unfold bqL;rw [List.range_succ,List.map_append];rfl
theorem cA (c:Cv) (i j h k:Nat):(bqL c i j h k).length=k:=by unfold bqL;simp
theorem Qr (w:World) (base kind:Int) (c l:Value):OfC w base kind c l (.slice none 0 0) (((w.alloc (.cells #[.int .i64 base,.int .i64 kind,c,l] 39)).alloc (.cells #[.int .i64 0,.int .i64 0,.slice none 0 0,.slice none 0 0] 39)).alloc (.cells #[.int .i64 base,.int .i64 kind,c,.slice none 0 0] 39)):=by
 have h:∀ (w:World) o,Below w.heap.size w (w.alloc o):=fun w o=>(Below.refl _ _).alloc (Nat.le_refl _) _
 generalize f:w.alloc (.cells #[.int .i64 base,.int .i64 kind,c,l] 39)=d;have m:d.heap.size=w.heap.size+1:=by rw [<- f];simp
 generalize b:d.alloc (.cells #[.int .i64 0,.int .i64 0,.slice none 0 0,.slice none 0 0] 39)=a;have q:a.heap.size=w.heap.size+2:=by rw [<- b];simp [m]
 have c1:∀ j,d.cell? ⟨w.heap.size,j,none⟩=(#[.int .i64 base,.int .i64 kind,c,l]:Array Value)[j]? :=fun j=>by rw [<- f];exact cT w _ _ j
 have c2:∀ j,a.cell? ⟨w.heap.size+1,j,none⟩=(#[.int .i64 0,.int .i64 0,.slice none 0 0,.slice none 0 0]:Array Value)[j]? :=fun j=>by rw [<- b,<- m];exact cT d _ _ j
 have c3:∀ j,(a.alloc (.cells #[.int .i64 base,.int .i64 kind,c,.slice none 0 0] 39)).cell? ⟨w.heap.size+2,j,none⟩=(#[.int .i64 base,.int .i64 kind,c,.slice none 0 0]:Array Value)[j]? :=fun j=>by rw [<- q];exact cT a _ _ j
 have g:∀ j,a.cell? ⟨w.heap.size,j,none⟩=d.cell? ⟨w.heap.size,j,none⟩:=fun j=>by rw [<- b];exact (h d _).cell (p:=⟨w.heap.size,j,none⟩) (by show w.heap.size<d.heap.size;omega)
 have e:∀ k<2,∀ j o,(a.alloc o).cell? ⟨w.heap.size+k,j,none⟩=a.cell? ⟨w.heap.size+k,j,none⟩:=fun k t j o=>(h a o).cell (p:=⟨w.heap.size+k,j,none⟩) (by show w.heap.size+k<a.heap.size;omega)
 have i:∀ j o,(a.alloc o).frozen? ⟨w.heap.size+1,j,none⟩=false:=fun j o=>by
  rw [(h a o).frozen (p:=⟨w.heap.size+1,j,none⟩) (by show w.heap.size+1<a.heap.size;omega),<- b,<- m]
  exact World.frozen?_alloc_new _ _ _ _
 have s:Below w.heap.size w (a.alloc (.cells #[.int .i64 base,.int .i64 kind,c,.slice none 0 0] 39)):=by
  have r:Below w.heap.size w d:=by rw [<- f];exact h w _
  have n:Below w.heap.size w a:=by rw [<- b];exact r.alloc r.size _
  exact n.alloc n.size _
 exact⟨((e 0 (by omega) 0 _).trans (g 0)).trans (c1 0),((e 0 (by omega) 1 _).trans (g 1)).trans (c1 1),((e 0 (by omega) 2 _).trans (g 2)).trans (c1 2),((e 0 (by omega) 3 _).trans (g 3)).trans (c1 3),(e 1 (by omega) 0 _).trans (c2 0),(e 1 (by omega) 1 _).trans (c2 1),(e 1 (by omega) 2 _).trans (c2 2),(e 1 (by omega) 3 _).trans (c2 3),i 0 _,i 1 _,i 2 _,i 3 _,c3 0,c3 1,c3 2,c3 3,by rw [<- q];exact World.frozen?_alloc_new _ _ _ _,s,by simp;omega⟩
structure BqO (w:World) (base kind:Int) (px:Option Addr) (n cx:Nat) (L:List Nat) (bad:Bool) (e:Ending) (w':World):Prop where
 no:bad=true->e=.returned (.tuple #[.agg #[.int .i64 0,.int .i64 0,.slice none 0 0,.slice none 0 0],.int .i64 91])
 yes:bad=false->∃ v,e=.returned (.tuple #[.agg #[.int .i64 base,.int .i64 kind,.slice px n cx,v],.int .i64 0])/\w'.ownsRow w.heap.size 41 1 v n (L.map uV)
 bl:Below w.heap.size w w'
theorem OfC.step {w wr a:World} {base kind:Int} {c d b:Value} (h:OfC w base kind c d b wr) (e:Below wr.heap.size wr a):OfC w base kind c d b a:=h.stay (e.mono h.sz)
theorem OfC.drewN {w wr:World} {base kind:Int} {b c a:Value} (h:OfC w base kind b c a wr) (q:Nat):OfC w base kind b c a (wr.drewN q):=h.stay ⟨rfl,rfl,rfl,Nat.le_refl _,fun _ _=>rfl⟩
theorem ew (c:Cv) (i j h n K:Nat) (U py:Option Addr) (V W cx b2 oy cy:Nat) (w:World) (ok:c.Ok) (A:CSrcD w U py V W b2 oy c.ds c.fs) (hv:c.Fit) (hn:c.ds.length=n) (hh:h<18446744073709551616) (hf:aE (h:Int)=true) (hK:K<=n) (N:∀ t<K,i<=t->t<j->bmB c t h=true) (am:K<n->i<=K/\K<j/\bmB c K h=false) :
  Calls Tryz.prog 43 #[.agg #[.int .i64 c.base,.int .i64 c.kind,.slice U n cx,.slice py n cy],.int .i64 i,.int .i64 j,.int .u64 (h:Int)] w fun e w'=>BqO w c.base c.kind U n cx (bqL c i j h n) (decide (K<n)) e w':=by
 have dy:n<=255:=by rw [<- hn];exact ok.hi
 have bv:Hid (∀ k<n,c.base<c.ds.getD k 0/\c.ds.getD k 0<=109572/\0<=c.base):=fun k hk=>⟨(ok.day (k:=k) (by omega)).1,(ok.day (k:=k) (by omega)).2,ok.b0⟩
 have bc:Hid (∀ k<n,∃ m fm x,FcD (rkT c.base (c.ds.getD k 0)) h (c.fs.getD k 0) m fm x (c.bm k h)):=fun k hk=>Qq ok hv (by omega) hh (bt hf)
 have dc:Hid (∀ k<n,c.bm k h<18446744073709551616/\ah (c.bm k h:Nat)=false):=fun k hk=>by
  obtain⟨_,_,a,b,_⟩:=uv (k:=k) ok hv (by omega) (bt hf)
  exact⟨a,b⟩
 have di:Hid (∀ k,bmB c k h=rkB (c.bm k h)):=fun k=>by unfold bmB;rw [hf];exact Bool.true_and _
 have dx:=ok.len;have Hx:Hid (c.ds.length=n):=hn;have Hy:Hid (c.fs.length=n):=by show _=_;omega
 have cc:=hideS N;have da:=hideS am;clear ok hv hn hf N am dx hh;obtain⟨base,F⟩:∃ b,c.base=b:=⟨_,rfl⟩;obtain⟨kind,R⟩:∃ b,c.kind=b:=⟨_,rfl⟩;rw [F] at bv bc
 rw [F,R];clear F R;have HY:=hideS A;have s:=hideS (Qr w base kind (.slice U n cx) (.slice py n cy));have p0:∀ o,((w.alloc (.cells #[.int .i64 base,.int .i64 kind,(.slice U n cx),.slice py n cy] 39)).alloc o).cell? ⟨w.heap.size,0,none⟩=some (.int .i64 base):=fun o=>kU w _ _ o 0
 have p1:∀ o,((w.alloc (.cells #[.int .i64 base,.int .i64 kind,(.slice U n cx),.slice py n cy] 39)).alloc o).cell? ⟨w.heap.size,1,none⟩=some (.int .i64 kind):=fun o=>kU w _ _ o 1
 have p2:∀ o,((w.alloc (.cells #[.int .i64 base,.int .i64 kind,(.slice U n cx),.slice py n cy] 39)).alloc o).cell? ⟨w.heap.size,2,none⟩=some (.slice U n cx):=fun o=>kU w _ _ o 2
 clear A
 go_enter Tryz.func43,Tryz.ntmps43
 go_wp2_with fail
 clear p0 p1 p2
 go_loopw [11,12,13] (fun a _ _ wr=>∃ k:Nat,k<=K/\a=.int .i64 k/\Hid (∃ v,wr.ownsRow (w.heap.size+3) 41 1 v k ((bqL c i j h k).map uV)/\OfC w base kind (.slice U n cx) (.slice py n cy) v wr)) (fun a _ _ _=>n - (intOf a).toNat)
 case atStart=>exact⟨0,Nat.zero_le _,rfl,_,qe _ _,s.out⟩
 case round=>
  clear s;obtain⟨k,hk,rfl,HH⟩:=hrel;obtain⟨v,ho,hb⟩:=HH.out;obtain⟨q0,g0,E,rfl,_,_,_,_⟩:=bq ho (cA _ _ _ _ _);have HO:=hideS ho;have s:=hideS hb;clear ho hb HH;have t3:=s.out.t3
  by_cases y:k<n
  ·obtain rfl:=HY.out.f.at_ (by rw [Hy.out];omega)
   obtain rfl:=HY.out.d.at_ (by rw [Hx.out];omega)
   have dE:wr.cell? ⟨b2,oy+k,none⟩=some (.int .u64 (c.fs.getD k 0:Nat)):=(s.out.bl.cell (p:=⟨b2,oy+k,none⟩) (HY.out.f.lt (by rw [Hy.out];omega))).trans (HY.out.f.cell k (by rw [Hy.out];exact y))
   have cf:wr.cell? ⟨V,W+k,none⟩=some (.int .i64 (c.ds.getD k 0)):=(s.out.bl.cell (p:=⟨V,W+k,none⟩) (HY.out.d.lt (by rw [Hx.out];omega))).trans (HY.out.d.cell k (by rw [Hx.out];exact y))
   have Z:Hid (∀ wx,Below w.heap.size w wx->wx.cell? ⟨V,W+k,none⟩=some (.int .i64 (c.ds.getD k 0))):=fun wx hb=>(hb.cell (p:=⟨V,W+k,none⟩) (HY.out.d.lt (by rw [Hx.out];omega))).trans (HY.out.d.cell k (by rw [Hx.out];exact y))
   obtain⟨d0,d1,d2⟩:=bv.out k y;obtain⟨m,fm,x,hF⟩:=bc.out k y;obtain⟨np,nq,X,Y,hP⟩:=Qp d0 (by omega)
   have HF:=hideS hF;have HP:=hideS hP;have B:=hideS (LE c i j h k);have hV:bqV c i j h k=if i<=k/\k<j then c.bm k h else c.fs.getD k 0:=rfl
   obtain⟨ul,un⟩:=dc.out k y;have l:=di.out k;unfold rkB at l
   have ai:ltB 0 (c.bm k h:Nat)=decide (0<ae (c.bm k h:Nat)):=by rw [aA (by decide) un,show ae 0=0 by decide]
   rw [<- ai] at l
   have bi:=hideS fun wx=>bK (c.bm k h:Nat) wx (af ul)
   have bs:=hideS fun wx=>gF 0 (c.bm k h:Nat) wx (by unfold U64;omega) (af ul)
   have I:=cc.out k;have H:=da.out;clear hF hP ai un;obtain⟨P,cq⟩:∃ P,c.ds.getD k 0 - base=P:=⟨_,rfl⟩;have ct:IntKind.i64.wrap (c.ds.getD k 0 - base)=P:=by rw [IntKind.wrap_i64];omega
   rw [cq] at HP
   generalize aE (c.bm k h:Nat)=b1 at *
   generalize ltB 0 (c.bm k h:Nat)=cs at *
   generalize rkT base (c.ds.getD k 0)=T at *
   generalize c.bm k h=u at *
   generalize c.fs.getD k 0=f at *
   generalize c.ds.getD k 0=D at *
   have l1:(0:Int)<=(k:Int):=Int.natCast_nonneg _;have l2:(k:Int)<(n:Int):=by omega
   clear cq d0 d1 d2
   by_cases L:i<=k/\k<j
   ·rw [if_pos L] at hV
    rw [hV] at B
    have l3:(i:Int)<=(k:Int):=by omega
    have l4:(k:Int)<(j:Int):=by omega
    obtain⟨dg,cp⟩:=L;clear hV
    go_wp2_with fail
    have df:=hideS (And.intro s.out.t0 (And.intro s.out.t2 (Z.out _ s.out.bl)));clear t3 dE cf
    go_region_held3 (fun w'=>w'.cell? ⟨w.heap.size,0,none⟩=some (.int .i64 base)/\w'.cell? ⟨w.heap.size,2,none⟩=some (.slice (some ⟨V,W,none⟩) n cx)/\w'.cell? ⟨V,W+k,none⟩=some (.int .i64 D)) (first | exact df.out | exact cr.out | exact cm.out | exact cl.out | go_keep) (first | ((go_at_call_of 62 (Value.int IntKind.i64 P);refine (HP.out.w1 _).mono ?_;rintro e w2 ⟨vx,rfl,bb,bk⟩;obtain⟨p1,n1,c1,rfl⟩:=dz bb;have M:=hideS (s.out.step ((Below.refl wr.heap.size wr).drew.trans bk));have dd:=hideS (aq HO.out ((Below.refl wr.heap.size wr).drew.trans bk));have cr:=hideS (And.intro M.out.t0 (And.intro M.out.t2 (Z.out _ M.out.bl)));have dk:=hideS bb;clear bk bb)) | ((go_at_call_of 62 (Value.int IntKind.i64 365);refine (HP.out.w2 _).mono ?_;rintro e w3 ⟨vy,rfl,ba,ab⟩;obtain⟨p2,n2,c2,rfl⟩:=dz ba;have Q:=hideS (M.out.step ab);have cd:=hideS (aq dd.out ab);have cm:=hideS (And.intro Q.out.t0 (And.intro Q.out.t2 (Z.out _ Q.out.bl)));have al:=hideS (dk.out.below ab);have ad:=hideS ba;clear ab ba)) | ((go_at_call 61;refine (HP.out.w3 _ _ _ al.out ad.out).mono ?_;rintro e w4 ⟨rfl,bh⟩;have O:=hideS (Q.out.step bh);have cv:=hideS (aq cd.out bh);have cl:=hideS (And.intro O.out.t0 (And.intro O.out.t2 (Z.out _ O.out.bl)));clear bh)))
    all_goals
     clear s M Q HO dd cd df cr cm cl HP dk al ad ct
     go_wp2_with fail
     refine (HF.out.m1 _).mono ?_
     rintro e w5 ⟨rfl,br⟩;have ca:=hideS (O.out.step br);have db:=hideS (aq cv.out br);clear br O cv
     go_wp2_with fail
     refine (HF.out.m2 _).mono ?_
     rintro e w6 ⟨rfl,rfl⟩
     go_wp2_with fail
     refine (HF.out.m3 _).mono ?_
     rintro e w7 ⟨rfl,bo⟩;have ci:=hideS (ca.out.step bo);have cu:=hideS (aq db.out bo);clear bo ca db
     go_wp2_with fail
     refine (HF.out.m4 _).mono ?_
     rintro e w8 ⟨rfl,bz⟩;have G:=hideS (ci.out.step bz);have dn:=hideS (aq cu.out bz);clear bz ci cu HF
     go_wp2_with fail
     refine (turned (bi.out _)).mono ?_
     rintro e w9 ⟨rfl,rfl⟩;cases b1
     ·have l:bmB c k h=false:=l;obtain rfl:k=K:=Nat.le_antisymm hk (Nat.le_of_not_lt fun e=>by have:=I e dg cp;rw [l] at this;cases this)
      clear I H l B;obtain⟨_,_,_,_,d0,d1,d2,d3,e0,e1,e2,e3,_,_,_,_,_,_,_⟩:=G.out
      go_wp2_with fail
      refine bodyPost_ret (v:=.tuple #[.agg #[.int .i64 0,.int .i64 0,.slice none 0 0,.slice none 0 0],.int .i64 91]) (by simp [results,Tryz.results43,go_sem,d0,d1,d2,d3]) rfl ?_
      have A:∀ j,w.heap.size<=(⟨w.heap.size+1,j,none⟩:Addr).block:=fun j=>by show w.heap.size<=w.heap.size+1;omega
      have J:Below w.heap.size w ((((w8.setCell ⟨w.heap.size+1,0,none⟩ (.int .i64 0)).setCell ⟨w.heap.size+1,1,none⟩ (.int .i64 0)).setCell ⟨w.heap.size+1,2,none⟩ (.slice none 0 0)).setCell ⟨w.heap.size+1,3,none⟩ (.slice none 0 0)):=(((G.out.bl.setCell (A 0) _).setCell (A 1) _).setCell (A 2) _).setCell (A 3) _;exact⟨fun _=>rfl,fun e=>(by first | exact absurd y (of_decide_eq_false e) | cases e),J⟩
     ·have l:bmB c k h=cs:=l
      go_wp2_with fail
      refine (turned (bs.out _)).mono ?_
      rintro e w9 ⟨rfl,rfl⟩;cases cs
      ·skip
       obtain rfl:k=K:=Nat.le_antisymm hk (Nat.le_of_not_lt fun e=>by have:=I e dg cp;rw [l] at this;cases this)
       clear I H l B;obtain⟨_,_,_,_,d0,d1,d2,d3,e0,e1,e2,e3,_,_,_,_,_,_,_⟩:=G.out
       go_wp2_with fail
       refine bodyPost_ret (v:=.tuple #[.agg #[.int .i64 0,.int .i64 0,.slice none 0 0,.slice none 0 0],.int .i64 91]) (by simp [results,Tryz.results43,go_sem,d0,d1,d2,d3]) rfl ?_
       have A:∀ j,w.heap.size<=(⟨w.heap.size+1,j,none⟩:Addr).block:=fun j=>by show w.heap.size<=w.heap.size+1;omega
       have J:Below w.heap.size w ((((w8.setCell ⟨w.heap.size+1,0,none⟩ (.int .i64 0)).setCell ⟨w.heap.size+1,1,none⟩ (.int .i64 0)).setCell ⟨w.heap.size+1,2,none⟩ (.slice none 0 0)).setCell ⟨w.heap.size+1,3,none⟩ (.slice none 0 0)):=(((G.out.bl.setCell (A 0) _).setCell (A 1) _).setCell (A 2) _).setCell (A 3) _;exact⟨fun _=>rfl,fun e=>(by first | exact absurd y (of_decide_eq_false e) | cases e),J⟩
      ·have dp:k<K:=Nat.lt_of_le_of_ne hk (fun e=>by obtain⟨_,_,a3⟩:=H (by omega);rw [<- e,l] at a3;cases a3)
       have HN:=B;clear I H l B bi bs ul;have z:Hid (∀ o,(w8.alloc o).ownsRow (w.heap.size+3) 41 1 (.slice q0 k E) k ((bqL c i j h k).map uV)):=fun o=>aq dn.out ((Below.refl _ w8).alloc (Nat.le_refl _) o)
       have g:Hid (∀ o,OfC w base kind (.slice (some ⟨V,W,none⟩) n cx) (.slice (some ⟨b2,oy,none⟩) n cy) (.slice q0 k E) (w8.alloc o)):=fun o=>G.out.step ((Below.refl _ w8).alloc (Nat.le_refl _) o)
       have o3:=G.out.o3;have y3:=(g.out (.cells #[.int .u64 (u:Int)] 41)).o3
       go_wp2_with (at_builtin;refine aO _ rfl (.tmp 69) (.tmp 71) rfl (w.heap.size+3) _ k (bqL c i j h k) rfl (z.out _) w8.heap.size u rfl (by simp) (by omega) (g.out (.cells #[.int .u64 (u:Int)] 41)).sz ?_;intro v6 w6 r C;obtain⟨q6,g6,c6,rfl,_,_,_,_⟩:=bq r (by rw [List.length_append,cA];rfl);have q:=hideS ((g.out _).stay (be (z.out _) C (g.out (.cells #[.int .u64 (u:Int)] 41)).sz));have S:=hideS r;have c2:=q.out.o3;have c3:=q.out.f3;clear r C o3 y3)
       go_roundw
       case rel=>exact⟨k+1,by omega,by simp,_,by rw [HN.out];exact bw S.out (by omega) _,q.out.put _⟩
       case measure=>simp [intOf];omega
   ·rw [if_neg L] at hV
    rw [hV] at B
    have HN:=B;have dp:k<K:=by
     apply Nat.lt_of_le_of_ne hk;intro e;obtain⟨a1,a2,_⟩:=H (by omega)
     omega
    clear B HF HP bi bs l I H ct cf ul;have l5:(i:Int)<=(k:Int)->¬ (k:Int)<(j:Int):=by omega
    by_cases l3:(i:Int)<=(k:Int)
    ·have l4:=l5 l3;clear l5 L;have z:Hid (∀ o,(wr.alloc o).ownsRow (w.heap.size+3) 41 1 (.slice q0 k E) k ((bqL c i j h k).map uV)):=fun o=>aq HO.out ((Below.refl _ wr).alloc (Nat.le_refl _) o)
     have g:Hid (∀ o,OfC w base kind (.slice (some ⟨V,W,none⟩) n cx) (.slice (some ⟨b2,oy,none⟩) n cy) (.slice q0 k E) (wr.alloc o)):=fun o=>s.out.step ((Below.refl _ wr).alloc (Nat.le_refl _) o)
     have o3:=s.out.o3;have y3:=(g.out (.cells #[.int .u64 (f:Int)] 41)).o3
     go_wp2_with (at_builtin;refine aO _ rfl (.tmp 69) (.tmp 71) rfl (w.heap.size+3) _ k (bqL c i j h k) rfl (z.out _) wr.heap.size f rfl (by simp) (by omega) (g.out (.cells #[.int .u64 (f:Int)] 41)).sz ?_;intro v6 w6 r C;obtain⟨q6,g6,c6,rfl,_,_,_,_⟩:=bq r (by rw [List.length_append,cA];rfl);have q:=hideS ((g.out _).stay (be (z.out _) C (g.out (.cells #[.int .u64 (f:Int)] 41)).sz));have S:=hideS r;have c2:=q.out.o3;have c3:=q.out.f3;clear r C o3 y3)
     go_roundw
     case rel=>exact⟨k+1,by omega,by simp,_,by rw [HN.out];exact bw S.out (by omega) _,q.out.put _⟩
     case measure=>simp [intOf];omega
    ·have l6:(k:Int)<(i:Int):=by omega
     clear l5 L l3;have z:Hid (∀ o,(wr.alloc o).ownsRow (w.heap.size+3) 41 1 (.slice q0 k E) k ((bqL c i j h k).map uV)):=fun o=>aq HO.out ((Below.refl _ wr).alloc (Nat.le_refl _) o)
     have g:Hid (∀ o,OfC w base kind (.slice (some ⟨V,W,none⟩) n cx) (.slice (some ⟨b2,oy,none⟩) n cy) (.slice q0 k E) (wr.alloc o)):=fun o=>s.out.step ((Below.refl _ wr).alloc (Nat.le_refl _) o)
     have o3:=s.out.o3;have y3:=(g.out (.cells #[.int .u64 (f:Int)] 41)).o3
     go_wp2_with (at_builtin;refine aO _ rfl (.tmp 69) (.tmp 71) rfl (w.heap.size+3) _ k (bqL c i j h k) rfl (z.out _) wr.heap.size f rfl (by simp) (by omega) (g.out (.cells #[.int .u64 (f:Int)] 41)).sz ?_;intro v6 w6 r C;obtain⟨q6,g6,c6,rfl,_,_,_,_⟩:=bq r (by rw [List.length_append,cA];rfl);have q:=hideS ((g.out _).stay (be (z.out _) C (g.out (.cells #[.int .u64 (f:Int)] 41)).sz));have S:=hideS r;have c2:=q.out.o3;have c3:=q.out.f3;clear r C o3 y3)
     go_roundw
     case rel=>exact⟨k+1,by omega,by simp,_,by rw [HN.out];exact bw S.out (by omega) _,q.out.put _⟩
     case measure=>simp [intOf];omega
  ·obtain rfl:k=n:=by omega
   have dF:¬ K<k:=by omega
   clear cc da bv bc dc di;have dV:¬ (k:Int)<(k:Int):=by omega
   have dU:=s.out.sz;obtain⟨t0,t1,t2,_,d0,d1,d2,d3,e0,e1,e2,e3,o0,o1,o2,o3,f3,_,_⟩:=s.out
   go_wp2_with fail
   refine bodyPost_ret (v:=.tuple #[.agg #[.int .i64 base,.int .i64 kind,.slice U k cx,.slice q0 k E],.int .i64 0]) (by simp [results,Tryz.results43,go_sem,d0,d1,d2,d3]) rfl ?_
   have A:∀ j,w.heap.size<=(⟨w.heap.size+1,j,none⟩:Addr).block:=fun j=>by show w.heap.size<=w.heap.size+1;omega
   have J:Below w.heap.size w ((((wr.setCell ⟨w.heap.size+1,0,none⟩ (.int .i64 base)).setCell ⟨w.heap.size+1,1,none⟩ (.int .i64 kind)).setCell ⟨w.heap.size+1,2,none⟩ (.slice U k cx)).setCell ⟨w.heap.size+1,3,none⟩ (.slice q0 k E)):=(((s.out.bl.setCell (A 0) _).setCell (A 1) _).setCell (A 2) _).setCell (A 3) _;exact⟨fun e=>(by first | exact absurd (of_decide_eq_true e) dF | cases e),fun _=>⟨_,rfl,gr (bw (bw (bw (bw HO.out (by omega) _) (by omega) _) (by omega) _) (by omega) _) (by omega)⟩,J⟩
end Go.Proofs.YtfdddijdjpijbaaGreat
