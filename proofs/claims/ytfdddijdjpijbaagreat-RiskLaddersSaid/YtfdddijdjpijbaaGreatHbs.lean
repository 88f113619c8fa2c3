/-  -/
import Derived.Test.YtfdddijdjpijbaaGreatHbr
import Derived.Test.YtfdddijdjpijbaaGreatRkS
import Derived.Test.YtfdddijdjpijbaaGreatHax
import Derived.Test.YtfdddijdjpijbaaGreatHbq
import Derived.Test.YtfdddijdjpijbaaGreatHbn
import Derived.Test.YtfdddijdjpijbaaGreatHba
import Derived.Test.YtfdddijdjpijbaaGreatHay
set_option maxHeartbeats 12800000
set_option maxRecDepth 40000
namespace Go.Proofs.YtfdddijdjpijbaaGreat
open Go.RowKit
structure OwnC (w:World) (B:Nat) (d:Cv) (gx cx gy cy:Nat):Prop where
 x:w.ownsRow B 3 1 (.slice (some ⟨gx,0,none⟩) d.ds.length cx) d.ds.length (d.ds.map kV)
 y:w.ownsRow B 27 1 (.slice (some ⟨gy,0,none⟩) d.fs.length cy) d.fs.length (d.fs.map fV)
 n:0<d.ds.length
 m:0<d.fs.length
 f:d.Fit
theorem OwnC.src {w:World} {B:Nat} {d:Cv} {j cx i cy:Nat} (h:OwnC w B d j cx i cy):TFl w (some ⟨j,0,none⟩) (some ⟨i,0,none⟩) j 0 i 0 d.ds d.fs:=by
 obtain⟨g,c,e,o,_⟩:=dz h.x rfl h.n;obtain⟨p,q,l,k,_⟩:=dO h.y rfl h.m;injection e with a _ _;injection a with a;injection a with a;injection l with b _ _;injection b with b;injection b with b;subst a b;exact⟨o,k,h.f⟩
theorem OwnC.below {w a:World} {B:Nat} {d:Cv} {c cx b cy:Nat} (h:OwnC w B d c cx b cy) (e:Below w.heap.size w a):OwnC a B d c cx b cy:=⟨cX h.x e,cX h.y e,h.n,h.m,h.f⟩
theorem OwnC.mono {w:World} {B B':Nat} {d:Cv} {b cx a cy:Nat} (h:OwnC w B d b cx a cy) (c:B'<=B):OwnC w B' d b cx a cy:=⟨bO h.x c,bO h.y c,h.n,h.m,h.f⟩
theorem OwnC.put {w:World} {B b j:Nat} {d:Cv} {c cx a cy:Nat} (h:OwnC w B d c cx a cy) (e:b<B) (x:Value):OwnC (w.setCell ⟨b,j,none⟩ x) B d c cx a cy:=⟨ax h.x e x,ax h.y e x,h.n,h.m,h.f⟩
structure CvO (w:World) (d:Cv) (E:Int) (e:Ending) (w':World):Prop where
 bad:E≠0->e=.returned (.tuple #[.agg #[.int .i64 0,.int .i64 0,.slice none 0 0,.slice none 0 0],.int .i64 E])
 ok:E=0->∃ gx cx gy cy,e=.returned (.tuple #[.agg #[.int .i64 d.base,.int .i64 d.kind,.slice (some ⟨gx,0,none⟩) d.ds.length cx,.slice (some ⟨gy,0,none⟩) d.fs.length cy],.int .i64 0])/\OwnC w' w.heap.size d gx cx gy cy
 bl:Below w.heap.size w w'
structure CpB (w:World) (base kind:Int) (vd vf:Value) (wr:World):Prop where
 k:BxK wr w.heap.size base kind vd vf
 z:wr.heap[w.heap.size+1]? =some au
 bl:Below w.heap.size w wr
theorem CpB.step {w wr b:World} {base kind:Int} {d c:Value} (h:CpB w base kind d c wr) (a:Below wr.heap.size wr b):CpB w base kind d c b:=
 ⟨h.k.step a,(a.block _ (Array.getElem?_eq_some_iff.1 h.z).1).trans h.z,h.bl.trans (a.mono h.bl.size)⟩
theorem CpB.stay {w wr b:World} {B:Nat} {base kind:Int} {d c:Value} (h:CpB w base kind d c wr) (a:Below B wr b) (e:w.heap.size+2<=B):CpB w base kind d c b:=
 ⟨⟨(a.block _ (by omega)).trans h.k.blk⟩,(a.block _ (by omega)).trans h.z,h.bl.trans (a.mono (by omega))⟩
theorem CpB.sz {w wr:World} {base kind:Int} {b a:Value} (h:CpB w base kind b a wr):w.heap.size+2<=wr.heap.size:=(Array.getElem?_eq_some_iff.1 h.z).1
theorem iN (w:World) (base kind:Int) (b a:Value):CpB w base kind b a ((w.alloc (.cells #[.int .i64 base,.int .i64 kind,b,a] 26)).alloc au):=by
 have c:(w.alloc (.cells #[.int .i64 base,.int .i64 kind,b,a] 26)).heap.size=w.heap.size+1:=by simp
 refine⟨(qU w base kind b a).step ((Below.refl _ _).alloc (Nat.le_refl _) _),?_,((Below.refl _ _).alloc (Nat.le_refl _) _).alloc (by rw [c];omega) _⟩
 rw [<- c];exact heap_alloc_new _ _
theorem CpB.put {w wr:World} {base kind:Int} {b a:Value} (h:CpB w base kind b a wr) (x y:Value):CpB w base kind x y ((wr.setCell ⟨w.heap.size,2,none⟩ x).setCell ⟨w.heap.size,3,none⟩ y):=by
 refine⟨⟨av _ (av _ h.k.blk)⟩,?_,(h.bl.setCell (p:=⟨w.heap.size,2,none⟩) (Nat.le_refl _) x).setCell (p:=⟨w.heap.size,3,none⟩) (Nat.le_refl _) y⟩
 rw [Below.heap_setCell _ ⟨w.heap.size,3,none⟩ y _ (by show w.heap.size+1≠w.heap.size;omega),Below.heap_setCell _ ⟨w.heap.size,2,none⟩ x _ (by show w.heap.size+1≠w.heap.size;omega)]
 exact h.z
theorem BxK.frz {w:World} {g:Nat} {base kind:Int} {b a:Value} (h:BxK w g base kind b a) (i:Nat):w.frozen? ⟨g,i,none⟩=false:=frozen_of_row _ _ i _ _ h.blk
theorem Cd (base kind:Int) (bd p x s q y n:Nat) (E:List Int) (I:List Nat) (w:World) (hd:VSrc w (some ⟨bd,p,none⟩) bd p n (xV E)) (hf:VSrc w (some ⟨s,q,none⟩) s q n (flV I)) (hl:E.length=n) (K:I.length=n) (hn:1<=n) (bb:n<=255) :
  Calls Tryz.prog 39 #[.agg #[.int .i64 base,.int .i64 kind,.slice (some ⟨bd,p,none⟩) n x,.slice (some ⟨s,q,none⟩) n y]] w fun e w'=>∃ d cx g cy,e=.returned (.agg #[.int .i64 base,.int .i64 kind,.slice (some ⟨d,0,none⟩) n cx,.slice (some ⟨g,0,none⟩) n cy])/\w'.ownsRow w.heap.size 3 1 (.slice (some ⟨d,0,none⟩) n cx) n (E.map kV)/\w'.ownsRow w.heap.size 27 1 (.slice (some ⟨g,0,none⟩) n cy) n (I.map fV)/\Below w.heap.size w w':=by
 have H:=hideS (iN w base kind (.slice (some ⟨bd,p,none⟩) n x) (.slice (some ⟨s,q,none⟩) n y));have P:=hideS fun r (hb:Below w.heap.size w r)=>BZ bd p n x E r (hd.below hb) hl (by omega) (by omega)
 have N:=hideS fun r (hb:Below w.heap.size w r)=>Ca s q n y I r (hf.below hb) K (by omega) (by omega)
 clear hd hf hl K;obtain⟨b,D⟩:∃ b,(w.alloc (.cells #[.int .i64 base,.int .i64 kind,.slice (some ⟨bd,p,none⟩) n x,.slice (some ⟨s,q,none⟩) n y] 26)).alloc au=b:=⟨_,rfl⟩;rw [D] at H
 unfold au at D
 obtain⟨U,T,G,F⟩:=H.out.k.t
 go_enter Tryz.func39,Tryz.ntmps39
 go_wp2_with fail
 clear D;refine ry (fun xw=>xw.cell? ⟨w.heap.size,2,none⟩=some (.slice (some ⟨bd,p,none⟩) n x)/\xw.cell? ⟨w.heap.size,3,none⟩=some (.slice (some ⟨s,q,none⟩) n y)) (fun i=>i==7||i==8||i==9) (by kernel_rfl) ?_
 have l:b.drew.cell? ⟨w.heap.size,2,none⟩=some (.slice (some ⟨bd,p,none⟩) n x)/\b.drew.cell? ⟨w.heap.size,3,none⟩=some (.slice (some ⟨s,q,none⟩) n y):=⟨G,F⟩;refine gU 0 (.pointer (some ⟨w.heap.size,2,none⟩)) rfl (by kernel_rfl) (by kernel_rfl) (by kernel_rfl) (by kernel_rfl) (by kernel_rfl) (fun _ _ _ h=>h) (by rfl) l (fun r u=>by obtain⟨V,S⟩:=u;go_simp) ?_
 simp only [Act.put,List.setIfInBounds_toArray];refine gU 1 (.slice (some ⟨bd,p,none⟩) n x) rfl (by kernel_rfl) (by kernel_rfl) (by kernel_rfl) (by kernel_rfl) (by kernel_rfl) (fun _ _ _ h=>h) (by rfl) l (fun r u=>by obtain⟨V,S⟩:=u;go_simp) ?_
 simp only [Act.put];refine gU 3 (.pointer (some ⟨w.heap.size,3,none⟩)) rfl (by kernel_rfl) (by kernel_rfl) (by kernel_rfl) (by kernel_rfl) (by kernel_rfl) (fun _ _ _ h=>h) (by rfl) l (fun r u=>by obtain⟨V,S⟩:=u;go_simp) ?_
 simp only [Act.put];refine gU 4 (.slice (some ⟨s,q,none⟩) n y) rfl (by kernel_rfl) (by kernel_rfl) (by kernel_rfl) (by kernel_rfl) (by kernel_rfl) (fun _ _ _ h=>h) (by rfl) l (fun r u=>by obtain⟨V,S⟩:=u;go_simp) ?_
 simp only [Act.put];refine jy (i:=2) (by kernel_rfl) ?_
 refine wpOp_step rfl (fun K1 Z=>?_)
 go_simp
 go_at_call 55
 refine (P.out _ (H.out.bl.drew)).mono ?_
 rintro e R ⟨d,cx,rfl,Q,c⟩;have o:Below b.heap.size b R:=⟨c.os,c.tape,c.output,c.size,c.block⟩;have m:=hideS (H.out.step o);have L:Hid (R.ownsRow b.heap.size 3 1 (.slice (some ⟨d,0,none⟩) n cx) n (E.map kV)):=Q;have B:R.cell? ⟨w.heap.size,2,none⟩=some (.slice (some ⟨bd,p,none⟩) n x)/\R.cell? ⟨w.heap.size,3,none⟩=some (.slice (some ⟨s,q,none⟩) n y):=⟨m.out.k.t.2.2.1,m.out.k.t.2.2.2⟩;have Y:Hid (b.heap.size<=R.heap.size):=o.size;clear Q c o l U T G F;refine Z _ _ ⟨fun _=>B,?_⟩
 refine gU 6 (.pointer (some ⟨w.heap.size,2,none⟩)) rfl (by kernel_rfl) (by kernel_rfl) (by kernel_rfl) (by kernel_rfl) (by kernel_rfl) (fun _ _ _ h=>h) (by rfl) B (fun r u=>by obtain⟨V,S⟩:=u;go_simp) ?_
 simp only [Act.put,List.setIfInBounds_toArray];refine jy (i:=5) (by kernel_rfl) ?_
 refine wpOp_step rfl (fun K2 ab=>?_)
 go_simp
 go_at_call 56
 refine (N.out _ m.out.bl).mono ?_
 rintro e w4 ⟨g,cy,rfl,O,A⟩;have f:=hideS (m.out.step A);have J:=hideS (cX L.out A);have M:=hideS (bO O Y.out);obtain⟨U,T,G,F⟩:=f.out.k.t;have z2:=f.out.k.frz 2;have z3:=f.out.k.frz 3;have C:=hideS (f.out.put (.slice (some ⟨d,0,none⟩) n cx) (.slice (some ⟨g,0,none⟩) n cy));have a:=hideS H.out.sz;have X:=hideS (ax (j:=3) (ax (j:=2) J.out (show w.heap.size<b.heap.size by have:=a.out;omega) (.slice (some ⟨d,0,none⟩) n cx)) (show w.heap.size<b.heap.size by have:=a.out;omega) (.slice (some ⟨g,0,none⟩) n cy))
 have ba:=hideS (ax (j:=3) (ax (j:=2) M.out (show w.heap.size<b.heap.size by have:=a.out;omega) (.slice (some ⟨d,0,none⟩) n cx)) (show w.heap.size<b.heap.size by have:=a.out;omega) (.slice (some ⟨g,0,none⟩) n cy))
 clear O A m L J M P N;refine ab _ _ ⟨fun _=>⟨G,F⟩,?_⟩
 refine jy (i:=7) (by kernel_rfl) ?_
 refine wpOp_step rfl (fun K3 ad=>?_)
 go_simp;refine ad _ _ ⟨fun h=>absurd h (by decide),?_⟩
 refine jy (i:=8) (by kernel_rfl) ?_
 refine wpOp_step rfl (fun K4 ai=>?_)
 go_simp;refine ai _ _ ⟨fun h=>absurd h (by decide),?_⟩
 refine jy (i:=9) (by kernel_rfl) ?_
 refine wpOp_step rfl (fun K5 am=>?_)
 go_simp;refine am _ _ ⟨fun h=>absurd h (by decide),?_⟩
 refine Gc (by kernel_rfl) ?_
 clear U T G F z2 z3 B f;generalize (w4.setCell ⟨w.heap.size,2,none⟩ (.slice (some ⟨d,0,none⟩) n cx)).setCell ⟨w.heap.size,3,none⟩ (.slice (some ⟨g,0,none⟩) n cy)=w5 at *
 obtain⟨U,T,G,F⟩:=C.out.k.t;obtain⟨u1,u2,u3,u4,⟨e0,z0,y0⟩,⟨e1,z1,y1⟩,⟨e2,z2,y2⟩,⟨e3,z3,y3⟩,hZ,hB⟩:=bB (w.heap.size+1) base kind (.slice (some ⟨d,0,none⟩) n cx) (.slice (some ⟨g,0,none⟩) n cy) w5 C.out.z;have ak:=hideS (C.out.bl.trans (hB.mono (by omega)))
 have W:Hid (u4.ownsRow b.heap.size 3 1 (.slice (some ⟨d,0,none⟩) n cx) n (E.map kV)):=by
  show World.ownsRow _ _ _ _ _ _ _
  rw [<- e3,<- e2,<- e1,<- e0];exact ax (ax (ax (ax X.out (by have:=a.out;omega) _) (by have:=a.out;omega) _) (by have:=a.out;omega) _) (by have:=a.out;omega) _
 have al:Hid (u4.ownsRow b.heap.size 27 1 (.slice (some ⟨g,0,none⟩) n cy) n (I.map fV)):=by
  show World.ownsRow _ _ _ _ _ _ _
  rw [<- e3,<- e2,<- e1,<- e0];exact ax (ax (ax (ax ba.out (by have:=a.out;omega) _) (by have:=a.out;omega) _) (by have:=a.out;omega) _) (by have:=a.out;omega) _
 obtain⟨s0,s1,s2,s3⟩:=hZ.t;clear hZ hB
 go_wp2_with fail
 refine bodyPost_ret (v:=.agg #[.int .i64 base,.int .i64 kind,.slice (some ⟨d,0,none⟩) n cx,.slice (some ⟨g,0,none⟩) n cy]) (by simp [results,Tryz.results39,go_sem,s0,s1,s2,s3]) rfl ?_
 exact⟨d,cx,g,cy,rfl,bO W.out (by have:=a.out;omega),bO al.out (by have:=a.out;omega),ak.out⟩
theorem Dx {w:World} {B:Nat} {c:Cv} {b cx a cy k u:Nat} (h:OwnC w B c b cx a cy) (o:k<c.fs.length) (d:u<18446744073709551616) (g:b≠a):OwnC (w.setCell ⟨a,k,none⟩ (.float .f64 u)) B ⟨c.base,c.kind,c.ds,c.fs.set k u⟩ b cx a cy:=by
 have i:=World.ownsRow.stored h.y k (.float .f64 u);refine⟨ownsRow_setCell_other h.x (by intro e;simp [Value.ownBlock] at e;exact g e) _,?_,h.n,by show 0<(c.fs.set k u).length;rw [List.length_set];exact h.m,fun j l=>?_⟩
 ·show World.ownsRow _ _ _ _ (.slice (some ⟨a,0,none⟩) (c.fs.set k u).length cy) (c.fs.set k u).length ((c.fs.set k u).map fV)
  rw [List.length_set,List.map_set];exact i.1
 ·show (c.fs.set k u).getD j 0<_
  rw [getD_set o]
  split
  ·exact d
  ·exact h.f j (by have:(c.fs.set k u).length=c.fs.length:=List.length_set;rw [<- this];exact l)
theorem OwnC.ne {w:World} {B:Nat} {d:Cv} {b cx a cy:Nat} (h:OwnC w B d b cx a cy):b≠a:=vJ h.x h.y (by decide)
theorem OwnC.lo {w:World} {B:Nat} {d:Cv} {b cx a cy:Nat} (h:OwnC w B d b cx a cy):B<=b/\B<=a:=⟨(h.x.lt b rfl).1,(h.y.lt a rfl).1⟩
theorem OwnC.hi {w:World} {B:Nat} {d:Cv} {b cx a cy:Nat} (h:OwnC w B d b cx a cy):b<w.heap.size/\a<w.heap.size:=⟨(h.x.lt b rfl).2,(h.y.lt a rfl).2⟩
theorem OwnC.cell {w:World} {B:Nat} {d:Cv} {b cx a cy k:Nat} (h:OwnC w B d b cx a cy) (c:k<d.fs.length):w.cell? ⟨a,k,none⟩=some (.float .f64 (d.fs.getD k 0))/\w.frozen? ⟨a,k,none⟩=false:=by
 have:=h.src.y.cell k c;rw [Nat.zero_add] at this
 exact⟨this,World.ownsRow.frozenAt h.y k⟩
theorem OwnC.far {w:World} {B b j:Nat} {d:Cv} {c cx a cy:Nat} (h:OwnC w B d c cx a cy) (g:c≠b) (i:a≠b) (x:Value):OwnC (w.setCell ⟨b,j,none⟩ x) B d c cx a cy:=
 ⟨ownsRow_setCell_other h.x (by intro e;simp [Value.ownBlock] at e;exact g e) _,ownsRow_setCell_other h.y (by intro e;simp [Value.ownBlock] at e;exact i e) _,h.n,h.m,h.f⟩
theorem tU {i u1 u2 u3 g:World} {B b:Nat} {d:Cv} {f cx e cy:Nat} {o n l q:Value} (h:OwnC i B d f cx e cy) (a:f≠b) (c:e≠b) (p:i.setCell ⟨b,0,none⟩ o=u1) (m:u1.setCell ⟨b,1,none⟩ n=u2) (j:u2.setCell ⟨b,2,none⟩ l=u3) (k:u3.setCell ⟨b,3,none⟩ q=g):OwnC g B d f cx e cy:=by
 rw [<- k,<- j,<- m,<- p];exact (((h.far a c _).far a c _).far a c _).far a c _
theorem Gd (base kind E:Int) (i:Int) (h:Nat) (f j:Value) (w:World) (n:E≠0) (x:Hid (∀ g,Below w.heap.size w g->Calls Tryz.prog 37 #[.agg #[.int .i64 base,.int .i64 kind,f,j]] g fun e m=>e=.returned (.int .i64 E)/\Below g.heap.size g m)) :
  Calls Tryz.prog 18 #[.agg #[.int .i64 base,.int .i64 kind,f,j],.int .i64 i,.float .f64 h] w fun e m=>CvO w cv0 E e m:=by
 have H:(E !=0)=true:=bne_iff_ne.2 n;have C:=hideS n;clear n;have c:=hideS (iN w base kind (f) (j));obtain⟨r,a⟩:∃ r,(w.alloc (.cells #[.int .i64 base,.int .i64 kind,f,j] 26)).alloc au=r:=⟨_,rfl⟩;rw [a] at c
 unfold au at a
 obtain⟨u,o,y,p⟩:=c.out.k.t
 go_enter Tryz.func18,Tryz.ntmps18
 go_wp2_with fail
 clear a u o y p;refine (x.out _ c.out.bl).mono ?_
 rintro e F ⟨rfl,d⟩;have b:=hideS (c.out.step d);have X:=hideS c.out.sz;clear d x c;obtain⟨u,o,y,p⟩:=b.out.k.t;obtain⟨K,Y,U,L,⟨T,V,W⟩,⟨R,J,Q⟩,⟨O,M,S⟩,⟨P,N,I⟩,s,q⟩:=bB (w.heap.size+1) 0 0 (.slice none 0 0) (.slice none 0 0) F b.out.z;have l:=hideS (b.out.bl.trans (q.mono (by omega)))
 obtain⟨A,D,G,B⟩:=s.t;clear s q
 go_wp2_with fail
 refine bodyPost_ret (v:=.tuple #[.agg #[.int .i64 0,.int .i64 0,.slice none 0 0,.slice none 0 0],.int .i64 E]) (by simp [results,Tryz.results18,go_sem,A,D,G,B]) rfl ?_
 exact⟨fun _=>rfl,fun h=>absurd h C.out,l.out⟩
theorem Ge (base kind E:Int) (h:Nat) (f i:Value) (w:World) (m:E≠0) (u:Hid (∀ g,Below w.heap.size w g->Calls Tryz.prog 37 #[.agg #[.int .i64 base,.int .i64 kind,f,i]] g fun e l=>e=.returned (.int .i64 E)/\Below g.heap.size g l)) :
  Calls Tryz.prog 19 #[.agg #[.int .i64 base,.int .i64 kind,f,i],.float .f64 h] w fun e l=>CvO w cv0 E e l:=by
 have G:(E !=0)=true:=bne_iff_ne.2 m;have B:=hideS m;clear m;have c:=hideS (iN w base kind (f) (i));obtain⟨q,a⟩:∃ q,(w.alloc (.cells #[.int .i64 base,.int .i64 kind,f,i] 26)).alloc au=q:=⟨_,rfl⟩;rw [a] at c
 unfold au at a
 obtain⟨s,n,x,o⟩:=c.out.k.t
 go_enter Tryz.func19,Tryz.ntmps19
 go_wp2_with fail
 clear a s n x o;refine (u.out _ c.out.bl).mono ?_
 rintro e D ⟨rfl,d⟩;have b:=hideS (c.out.step d);have W:=hideS c.out.sz;clear d u c;obtain⟨s,n,x,o⟩:=b.out.k.t;obtain⟨J,X,T,K,⟨S,U,V⟩,⟨Q,I,P⟩,⟨N,L,R⟩,⟨O,M,H⟩,r,p⟩:=bB (w.heap.size+1) 0 0 (.slice none 0 0) (.slice none 0 0) D b.out.z;have j:=hideS (b.out.bl.trans (p.mono (by omega)))
 obtain⟨y,C,F,A⟩:=r.t;clear r p
 go_wp2_with fail
 refine bodyPost_ret (v:=.tuple #[.agg #[.int .i64 0,.int .i64 0,.slice none 0 0,.slice none 0 0],.int .i64 E]) (by simp [results,Tryz.results19,go_sem,y,C,F,A]) rfl ?_
 exact⟨fun _=>rfl,fun h=>absurd h B.out,j.out⟩
theorem Gf (base kind i:Int) (h n m bd g l q j p:Nat) (w:World) (hi:¬ (0<=i/\i<(n:Int))) (G:Hid (∀ o,Below w.heap.size w o->Calls Tryz.prog 37 #[.agg #[.int .i64 base,.int .i64 kind,.slice (some ⟨bd,g,none⟩) n l,.slice (some ⟨q,j,none⟩) m p]] o fun e r=>e=.returned (.int .i64 0)/\Below o.heap.size o r)) :
  Calls Tryz.prog 18 #[.agg #[.int .i64 base,.int .i64 kind,.slice (some ⟨bd,g,none⟩) n l,.slice (some ⟨q,j,none⟩) m p],.int .i64 i,.float .f64 h] w fun e r=>CvO w cv0 1 e r:=by
 have A:Hid ((1:Int)≠0):=by show _≠_;decide
 have c:=hideS (iN w base kind (.slice (some ⟨bd,g,none⟩) n l) (.slice (some ⟨q,j,none⟩) m p));obtain⟨C,a⟩:∃ C,(w.alloc (.cells #[.int .i64 base,.int .i64 kind,.slice (some ⟨bd,g,none⟩) n l,.slice (some ⟨q,j,none⟩) m p] 26)).alloc au=C:=⟨_,rfl⟩;rw [a] at c
 unfold au at a
 obtain⟨E,s,H,y⟩:=c.out.k.t
 go_enter Tryz.func18,Tryz.ntmps18
 go_wp2_with fail
 clear a E s H y;refine (G.out _ c.out.bl).mono ?_
 rintro e J ⟨rfl,f⟩;have b:=hideS (c.out.step f);have HS:=hideS c.out.sz;clear f G c;obtain⟨E,s,H,y⟩:=b.out.k.t;obtain⟨N,u2,Y,O,⟨X,Z,y0⟩,⟨V,M,U⟩,⟨R,P,W⟩,⟨S,Q,L⟩,D,B⟩:=bB (w.heap.size+1) 0 0 (.slice none 0 0) (.slice none 0 0) J b.out.z;have d:=hideS (b.out.bl.trans (B.mono (by omega)))
 obtain⟨u,F,I,x⟩:=D.t;clear D B
 by_cases T:i<0
 ·clear hi
  go_wp2_with fail
  refine bodyPost_ret (v:=.tuple #[.agg #[.int .i64 0,.int .i64 0,.slice none 0 0,.slice none 0 0],.int .i64 1]) (by simp [results,Tryz.results18,go_sem,u,F,I,x]) rfl ?_
  exact⟨fun _=>rfl,fun h=>absurd h A.out,d.out⟩
 ·have K:(n:Int)<=i:=by omega
  clear hi
  go_wp2_with fail
  refine bodyPost_ret (v:=.tuple #[.agg #[.int .i64 0,.int .i64 0,.slice none 0 0,.slice none 0 0],.int .i64 1]) (by simp [results,Tryz.results18,go_sem,u,F,I,x]) rfl ?_
  exact⟨fun _=>rfl,fun h=>absurd h A.out,d.out⟩
theorem Gg (base kind E:Int) (k h U n m bd g j p i l:Nat) (w:World) (Q:k<n) (B:E≠0) (G:Hid (∀ a,Below w.heap.size w a->Calls Tryz.prog 37 #[.agg #[.int .i64 base,.int .i64 kind,.slice (some ⟨bd,g,none⟩) n j,.slice (some ⟨p,i,none⟩) m l]] a fun e q=>e=.returned (.int .i64 0)/\Below a.heap.size a q)) (H:Hid (∀ a,Below w.heap.size w a->Calls Tryz.prog 38 #[.agg #[.int .i64 base,.int .i64 kind,.slice (some ⟨bd,g,none⟩) n j,.slice (some ⟨p,i,none⟩) m l],.int .i64 (k:Nat),.float .f64 h] a fun e q=>e=.returned (.tuple #[.float .f64 U,.int .i64 E])/\Below a.heap.size a q)) :
  Calls Tryz.prog 18 #[.agg #[.int .i64 base,.int .i64 kind,.slice (some ⟨bd,g,none⟩) n j,.slice (some ⟨p,i,none⟩) m l],.int .i64 (k:Nat),.float .f64 h] w fun e q=>CvO w cv0 E e q:=by
 have O:(E !=0)=true:=bne_iff_ne.2 B;have K:=hideS B;clear B;have d:=hideS (iN w base kind (.slice (some ⟨bd,g,none⟩) n j) (.slice (some ⟨p,i,none⟩) m l));obtain⟨D,b⟩:∃ D,(w.alloc (.cells #[.int .i64 base,.int .i64 kind,.slice (some ⟨bd,g,none⟩) n j,.slice (some ⟨p,i,none⟩) m l] 26)).alloc au=D:=⟨_,rfl⟩;rw [b] at d
 unfold au at b
 obtain⟨y,s,A,x⟩:=d.out.k.t
 go_enter Tryz.func18,Tryz.ntmps18
 go_wp2_with fail
 clear b y s A x;refine (G.out _ d.out.bl).mono ?_
 rintro e w3 ⟨rfl,r⟩;have c:=hideS (d.out.step r);have HS:=hideS d.out.sz;clear r G d;obtain⟨y,s,A,x⟩:=c.out.k.t;have g1:¬ (k:Int)<0:=by omega
 have W:¬ (n:Int)<=(k:Int):=by omega
 go_wp2_with fail
 refine (H.out _ c.out.bl).mono ?_
 rintro e L ⟨rfl,o⟩;have f:=hideS (c.out.step o);clear o H y s A x;obtain⟨S,u2,u3,T,⟨e0,z0,y0⟩,⟨e1,R,y1⟩,⟨Y,V,y2⟩,⟨Z,X,P⟩,F,C⟩:=bB (w.heap.size+1) 0 0 (.slice none 0 0) (.slice none 0 0) L f.out.z;have u:=hideS (f.out.bl.trans (C.mono (by omega)))
 obtain⟨I,M,N,J⟩:=F.t;clear F C
 go_wp2_with fail
 refine bodyPost_ret (v:=.tuple #[.agg #[.int .i64 0,.int .i64 0,.slice none 0 0,.slice none 0 0],.int .i64 E]) (by simp [results,Tryz.results18,go_sem,I,M,N,J]) rfl ?_
 exact⟨fun _=>rfl,fun h=>absurd h K.out,u.out⟩
theorem KY (c:Cv) (base kind:Int) (k h U n bd q u A s x:Nat) (w:World) (hk:k<n) (V:c.base=base) (N:c.kind=kind) (T:c.ds.length=n) (K:c.fs.length=n) (hU:U<18446744073709551616) (HC:Hid (∀ b,Below w.heap.size w b->Calls Tryz.prog 37 #[.agg #[.int .i64 base,.int .i64 kind,.slice (some ⟨bd,q,none⟩) n u,.slice (some ⟨A,s,none⟩) n x]] b fun e l=>e=.returned (.int .i64 0)/\Below b.heap.size b l)) (HF:Hid (∀ b,Below w.heap.size w b->Calls Tryz.prog 38 #[.agg #[.int .i64 base,.int .i64 kind,.slice (some ⟨bd,q,none⟩) n u,.slice (some ⟨A,s,none⟩) n x],.int .i64 (k:Nat),.float .f64 h] b fun e l=>e=.returned (.tuple #[.float .f64 U,.int .i64 0])/\Below b.heap.size b l)) (HO:Hid (∀ b,Below w.heap.size w b->Calls Tryz.prog 39 #[.agg #[.int .i64 base,.int .i64 kind,.slice (some ⟨bd,q,none⟩) n u,.slice (some ⟨A,s,none⟩) n x]] b fun e l=>(∃ g cx a cy,e=.returned (.agg #[.int .i64 base,.int .i64 kind,.slice (some ⟨g,0,none⟩) n cx,.slice (some ⟨a,0,none⟩) n cy])/\OwnC l b.heap.size c g cx a cy)/\Below b.heap.size b l)) :
  Calls Tryz.prog 18 #[.agg #[.int .i64 base,.int .i64 kind,.slice (some ⟨bd,q,none⟩) n u,.slice (some ⟨A,s,none⟩) n x],.int .i64 (k:Nat),.float .f64 h] w fun e l=>CvO w ⟨c.base,c.kind,c.ds,c.fs.set k U⟩ 0 e l:=by
 have ai:=hideS V;have ad:=hideS N;have Z:=hideS T;have y:=hideS K;have HU:=hideS hU;clear V N T K hU;have C:=hideS (iN w base kind (.slice (some ⟨bd,q,none⟩) n u) (.slice (some ⟨A,s,none⟩) n x));obtain⟨w2,B⟩:∃ w2,(w.alloc (.cells #[.int .i64 base,.int .i64 kind,.slice (some ⟨bd,q,none⟩) n u,.slice (some ⟨A,s,none⟩) n x] 26)).alloc au=w2:=⟨_,rfl⟩;rw [B] at C
 unfold au at B
 obtain⟨I,H,X,F⟩:=C.out.k.t
 go_enter Tryz.func18,Tryz.ntmps18
 go_wp2_with fail
 clear B I H X F;refine (HC.out _ C.out.bl).mono ?_
 rintro e w3 ⟨rfl,S⟩;have i:=hideS (C.out.step S);have HS:=hideS C.out.sz;clear S HC C;obtain⟨I,H,X,F⟩:=i.out.k.t;have g1:¬ (k:Int)<0:=by omega
 have g2:¬ (n:Int)<=(k:Int):=by omega
 go_wp2_with fail
 refine (HF.out _ i.out.bl).mono ?_
 rintro e w4 ⟨rfl,J⟩;have d:=hideS (i.out.step J);clear J HF I H X F;obtain⟨I,H,X,F⟩:=d.out.k.t
 go_wp2_with fail
 refine (HO.out _ d.out.bl).mono ?_
 rintro e j ⟨⟨g,cx,a,cy,rfl,D⟩,E⟩;have Q:=hideS (d.out.step E);have HL:=hideS D.lo;have HH:=hideS D.hi;have am:=hideS D.ne;have f:=hideS d.out.sz;obtain⟨u1,u2,u3,L,⟨e0,z0,y0⟩,⟨e1,z1,y1⟩,⟨e2,z2,y2⟩,⟨e3,z3,y3⟩,hZ,hB⟩:=bB j.heap.size base kind (.slice (some ⟨g,0,none⟩) n cx) (.slice (some ⟨a,0,none⟩) n cy) (j.alloc au) (heap_alloc_new _ _);have m:Below j.heap.size j L:=((Below.refl _ j).alloc (Nat.le_refl _) au).trans hB;have r:=hideS (D.below m);have G:=hideS (Q.out.step m);obtain⟨q1,q2⟩:=r.out.cell (k:=k) (by rw [y.out];exact hk)
 have R:=hideS (Dx r.out (by rw [y.out];exact hk) HU.out am.out)
 have o:Hid (CpB w base kind (.slice (some ⟨bd,q,none⟩) n u) (.slice (some ⟨A,s,none⟩) n x) (L.setCell ⟨a,k,none⟩ (.float .f64 U))):=G.out.stay ((Below.refl a L).setCell (p:=⟨a,k,none⟩) (Nat.le_refl _) _) (by have:=HL.out.2;have:=f.out;omega)
 have P:Hid (BxK (L.setCell ⟨a,k,none⟩ (.float .f64 U)) j.heap.size base kind (.slice (some ⟨g,0,none⟩) n cx) (.slice (some ⟨a,0,none⟩) n cy)):=⟨by
  rw [Below.heap_setCell _ ⟨a,k,none⟩ _ _ (by show j.heap.size≠a;have:=HH.out.2;omega)];exact hZ.blk⟩
 obtain⟨w6,W⟩:∃ w6,j.alloc au=w6:=⟨_,rfl⟩;rw [W] at e0 z0 y0
 unfold au at W
 obtain⟨s0,s1,s2,s3⟩:=hZ.t;obtain⟨Y,ak⟩:∃ Y,L.setCell ⟨a,k,none⟩ (.float .f64 U)=Y:=⟨_,rfl⟩;rw [ak] at R o P
 obtain⟨x0,x1,x2,x3⟩:=P.out.t;obtain⟨v1,v2,v3,v4,⟨f0,a0,b0⟩,⟨f1,a1,b1⟩,⟨f2,a2,bb⟩,⟨f3,a3,b3⟩,M,O⟩:=bB (w.heap.size+1) base kind (.slice (some ⟨g,0,none⟩) n cx) (.slice (some ⟨a,0,none⟩) n cy) Y o.out.z;have al:=hideS (tU R.out (by have:=HL.out.1;have:=f.out;omega) (by have:=HL.out.2;have:=f.out;omega) f0 f1 f2 f3)
 have ab:=hideS (o.out.bl.trans (O.mono (by omega)))
 obtain⟨r0,r1,r2,r3⟩:=M.t;have ba:=cg;have g3:(0:Int)<=(k:Int):=by omega
 have g4:(k:Int)<(n:Int):=by omega
 clear D E HO I H X F hZ hB m M O Q G d i r
 go_wp2_with fail
 refine bodyPost_ret (v:=.tuple #[.agg #[.int .i64 base,.int .i64 kind,.slice (some ⟨g,0,none⟩) n cx,.slice (some ⟨a,0,none⟩) n cy],.int .i64 0]) (by simp [results,Tryz.results18,go_sem,r0,r1,r2,r3]) rfl ?_
 refine⟨fun h=>absurd rfl h,fun _=>⟨g,cx,a,cy,?_,al.out.mono (by have:=f.out;omega)⟩,ab.out⟩
 show Ending.returned _=Ending.returned (.tuple #[.agg #[.int .i64 c.base,.int .i64 c.kind,.slice (some ⟨g,0,none⟩) c.ds.length cx,.slice (some ⟨a,0,none⟩) (c.fs.set k U).length cy],.int .i64 0])
 rw [List.length_set,ai.out,ad.out,Z.out,y.out]
structure PaI (w:World) (base kind:Int) (vd vf:Value) (B D:Nat) (n gx cx gy cy:Nat) (c:Cv) (h k:Nat) (wr:World):Prop where
 cp:CpB w base kind vd vf wr
 bx:BxK wr B base kind (.slice (some ⟨gx,0,none⟩) n cx) (.slice (some ⟨gy,0,none⟩) n cy)
 own:OwnC wr D ⟨c.base,c.kind,c.ds,c.parL h k⟩ gx cx gy cy
theorem PaI.step {w wr f:World} {base kind:Int} {d g:Value} {B D n e cx b cy:Nat} {c:Cv} {h k:Nat} (H:PaI w base kind d g B D n e cx b cy c h k wr) (a:Below wr.heap.size wr f):PaI w base kind d g B D n e cx b cy c h k f:=⟨H.cp.step a,H.bx.step a,H.own.below a⟩
theorem PaI.put {w wr:World} {base kind:Int} {b f:Value} {B D n d cx a cy:Nat} {c:Cv} {h k:Nat} (H:PaI w base kind b f B D n d cx a cy c h k wr) (g:k<c.fs.length) (j:c.bm k h<18446744073709551616) (l:w.heap.size+2<=D) (i:a≠B):PaI w base kind b f B D n d cx a cy c h (k+1) (wr.setCell ⟨a,k,none⟩ (.float .f64 (c.bm k h))):=by
 refine⟨H.cp.stay ((Below.refl a wr).setCell (p:=⟨a,k,none⟩) (Nat.le_refl _) _) (by have:=H.own.lo.2;omega),⟨?_⟩,Dx H.own (by show k<(c.parL h k).length;rw [gT];exact g) j H.own.ne⟩
 rw [Below.heap_setCell _ ⟨a,k,none⟩ _ _ (by show B≠a;exact fun e=>i e.symm)];exact H.bx.blk
theorem Gh (c:Cv) (base kind:Int) (h n bd r u A s x:Nat) (w:World) (hn:n<=255) (ba:c.base=base) (Z:c.kind=kind) (al:c.ds.length=n) (W:c.fs.length=n) (V:∀ k<n,bmE c k h=0->bmV c k h=c.bm k h/\c.bm k h<18446744073709551616) (Y:∀ k<n,bmE c k h≠0->bmE c k h=91)
  (HC:Hid (∀ a,Below w.heap.size w a->Calls Tryz.prog 37 #[.agg #[.int .i64 base,.int .i64 kind,.slice (some ⟨bd,r,none⟩) n u,.slice (some ⟨A,s,none⟩) n x]] a fun e q=>e=.returned (.int .i64 0)/\Below a.heap.size a q))
  (HF:Hid (∀ k<n,∀ a,Below w.heap.size w a->Calls Tryz.prog 38 #[.agg #[.int .i64 base,.int .i64 kind,.slice (some ⟨bd,r,none⟩) n u,.slice (some ⟨A,s,none⟩) n x],.int .i64 (k:Nat),.float .f64 h] a fun e q=>e=.returned (.tuple #[.float .f64 (bmV c k h),.int .i64 (bmE c k h)])/\Below a.heap.size a q))
  (HO:Hid (∀ a,Below w.heap.size w a->Calls Tryz.prog 39 #[.agg #[.int .i64 base,.int .i64 kind,.slice (some ⟨bd,r,none⟩) n u,.slice (some ⟨A,s,none⟩) n x]] a fun e q=>(∃ l cx g cy,e=.returned (.agg #[.int .i64 base,.int .i64 kind,.slice (some ⟨l,0,none⟩) n cx,.slice (some ⟨g,0,none⟩) n cy])/\OwnC q a.heap.size c l cx g cy)/\Below a.heap.size a q)) :
  Calls Tryz.prog 19 #[.agg #[.int .i64 base,.int .i64 kind,.slice (some ⟨bd,r,none⟩) n u,.slice (some ⟨A,s,none⟩) n x],.float .f64 h] w fun e q=>((∃ k<n,bmE c k h≠0)/\CvO w cv0 91 e q)\/((∀ k<n,bmE c k h=0)/\CvO w (c.para h) 0 e q):=by
 have bk:=hideS ba;have bi:=hideS Z;have O:=hideS al;have I:=hideS W;have HU:=hideS V;have bc:=hideS Y;clear ba Z al W V Y;have Q:=hideS (iN w base kind (.slice (some ⟨bd,r,none⟩) n u) (.slice (some ⟨A,s,none⟩) n x));obtain⟨w2,L⟩:∃ w2,(w.alloc (.cells #[.int .i64 base,.int .i64 kind,.slice (some ⟨bd,r,none⟩) n u,.slice (some ⟨A,s,none⟩) n x] 26)).alloc au=w2:=⟨_,rfl⟩;rw [L] at Q
 unfold au at L
 obtain⟨H,G,M,F⟩:=Q.out.k.t
 go_enter Tryz.func19,Tryz.ntmps19
 go_wp2_with fail
 clear L H G M F;refine (HC.out _ Q.out.bl).mono ?_
 rintro e w3 ⟨rfl,ai⟩;have m:=hideS (Q.out.step ai);have HS:=hideS m.out.sz;clear ai HC Q;obtain⟨H,G,M,F⟩:=m.out.k.t
 go_wp2_with fail
 refine (HO.out _ m.out.bl).mono ?_
 rintro e p ⟨⟨l,cx,g,cy,rfl,E⟩,P⟩;have ad:=hideS (m.out.step P);have HL:=hideS E.lo;have HH:=hideS E.hi;obtain⟨u1,u2,u3,u4,⟨e0,z0,y0⟩,⟨e1,z1,y1⟩,⟨e2,z2,y2⟩,⟨e3,z3,y3⟩,R,T⟩:=bB p.heap.size base kind (.slice (some ⟨l,0,none⟩) n cx) (.slice (some ⟨g,0,none⟩) n cy) (p.alloc au) (heap_alloc_new _ _);have C:Below p.heap.size p u4:=((Below.refl _ p).alloc (Nat.le_refl _) au).trans T;have f:Hid (PaI w base kind (.slice (some ⟨bd,r,none⟩) n u) (.slice (some ⟨A,s,none⟩) n x) p.heap.size w3.heap.size n l cx g cy c h 0 u4):=⟨ad.out.step C,R,E.below C⟩;have bh:Hid (l≠p.heap.size/\g≠p.heap.size):=⟨Nat.ne_of_lt HH.out.1,Nat.ne_of_lt HH.out.2⟩;obtain⟨w6,K⟩:∃ w6,p.alloc au=w6:=⟨_,rfl⟩;rw [K] at e0 z0 y0
 unfold au at K
 clear H G M F;obtain⟨H,G,M,F⟩:=f.out.cp.k.t;clear E P HO R T C ad m HH
 go_wp2_with fail
 clear K e0 z0 y0 e1 z1 y1 e2 z2 y2 e3 z3 y3 H G M F;generalize p.heap.size=B at *
 generalize w3.heap.size=D at *
 go_loopw [8,9,10,22] (fun _ _ _ i wr=>∃ k:Nat,k<=n/\i=.int .i64 k/\Hid (∀ j<k,bmE c j h=0)/\Hid (PaI w base kind (.slice (some ⟨bd,r,none⟩) n u) (.slice (some ⟨A,s,none⟩) n x) B D n l cx g cy c h k wr)) (fun _ _ _ i _=>n - (intOf i).toNat)
 case atStart=>exact⟨0,Nat.zero_le _,rfl,fun j hj=>by omega,f⟩
 case round=>
  clear f;obtain⟨k,hk,rfl,ak,f⟩:=hrel
  by_cases b:k<n
  ·obtain⟨H,G,M,F⟩:=f.out.cp.k.t;have am:=hideS (HF.out k b)
   go_wp2_with fail
   refine (am.out _ f.out.cp.bl).mono ?_
   rintro e w7 ⟨rfl,S⟩;have o:=hideS (f.out.step S);clear S am f H G M F
   by_cases y:bmE c k h=0
   ·obtain⟨hV,V⟩:=HU.out k b y;have HP:=hideS (o.out.put (by rw [I.out];exact b) V HS.out bh.out.2)
    have bb:Hid (∀ j<k+1,bmE c j h=0):=fun j hj=>by
     rcases Nat.lt_or_eq_of_le (Nat.le_of_lt_succ hj) with d | d
     ·exact ak.out j d
     ·rw [d];exact y
    obtain⟨q1,q2⟩:=o.out.own.cell (k:=k) (by show k<(c.parL h k).length;rw [gT,I.out];exact b)
    obtain⟨s0,s1,s2,s3⟩:=o.out.bx.t;have br:=cg;have g3:(0:Int)<=(k:Int):=by omega
    have g4:(k:Int)<(n:Int):=by omega
    rw [y,hV];clear y hV V;generalize c.bm k h=U at *
    go_wp2_with fail
    go_roundw
    case rel=>exact⟨k+1,by omega,by simp,bb,HP⟩
    case measure=>simp [intOf];omega
   ·have dE:(bmE c k h !=0)=true:=bne_iff_ne.2 y;obtain⟨u1,u2,u3,u4,⟨e0,z0,y0⟩,⟨e1,z1,y1⟩,⟨e2,z2,y2⟩,⟨e3,z3,y3⟩,R,T⟩:=bB (w.heap.size+1) 0 0 (.slice none 0 0) (.slice none 0 0) w7 o.out.cp.z;have J:=hideS (o.out.cp.bl.trans (T.mono (by omega)))
    obtain⟨s0,s1,s2,s3⟩:=R.t;have HE:Hid (∃ k<n,bmE c k h≠0):=⟨k,b,y⟩;have N:=bc.out k b y;rw [N] at dE ⊢
    clear R T y N
    go_wp2_with fail
    refine bodyPost_ret (v:=.tuple #[.agg #[.int .i64 0,.int .i64 0,.slice none 0 0,.slice none 0 0],.int .i64 91]) (by simp [results,Tryz.results19,go_sem,s0,s1,s2,s3]) rfl ?_
    exact Or.inl ⟨HE.out,fun _=>rfl,fun h=>absurd h (by decide),J.out⟩
  ·obtain rfl:k=n:=by omega
   obtain⟨s0,s1,s2,s3⟩:=f.out.bx.t;obtain⟨v1,v2,v3,v4,⟨f0,a0,b0⟩,⟨f1,a1,b1⟩,⟨f2,a2,bs⟩,⟨f3,a3,b3⟩,X,ab⟩:=bB (w.heap.size+1) base kind (.slice (some ⟨l,0,none⟩) k cx) (.slice (some ⟨g,0,none⟩) k cy) wr f.out.cp.z;have bo:=hideS (tU f.out.own (by have:=HL.out.1;have:=HS.out;omega) (by have:=HL.out.2;have:=HS.out;omega) f0 f1 f2 f3)
   have J:=hideS (f.out.cp.bl.trans (ab.mono (by omega)))
   obtain⟨r0,r1,r2,r3⟩:=X.t;clear X ab
   go_wp2_with fail
   refine bodyPost_ret (v:=.tuple #[.agg #[.int .i64 base,.int .i64 kind,.slice (some ⟨l,0,none⟩) k cx,.slice (some ⟨g,0,none⟩) k cy],.int .i64 0]) (by simp [results,Tryz.results19,go_sem,r0,r1,r2,r3]) rfl ?_
   have E:=bo.out;rw [<- O.out] at E
   refine Or.inr ⟨ak.out,fun h=>absurd rfl h,fun _=>⟨l,cx,g,cy,?_,E.mono (by have:=HS.out;omega)⟩,J.out⟩
   show Ending.returned _=Ending.returned (.tuple #[.agg #[.int .i64 c.base,.int .i64 c.kind,.slice (some ⟨l,0,none⟩) c.ds.length cx,.slice (some ⟨g,0,none⟩) (c.parL h c.ds.length).length cy],.int .i64 0])
   rw [gT,bk.out,bi.out,O.out,I.out]
theorem KZ {c:Cv} {k h:Nat} (d:c.Ok) (f:c.Fit) (e:k<c.ds.length) (b:bmE c k h=0):bmB c k h=true/\bmV c k h=c.bm k h/\c.bm k h<18446744073709551616:=by
 have a:bmB c k h=true:=by
  cases a:bmB c k h with
  | true=>rfl
  | false=>unfold bmE at b;rw [a] at b;exact absurd b (by decide)
 refine⟨a,by unfold bmV;rw [if_pos a],(zF d f e (cC (zG a).2)).2.2.1⟩
theorem bmE_cases (c:Cv) (k h:Nat):(bmB c k h=true/\bmE c k h=0)\/(bmB c k h=false/\bmE c k h=91):=by
 unfold bmE;cases bmB c k h
 ·exact Or.inr ⟨rfl,rfl⟩
 ·exact Or.inl ⟨rfl,rfl⟩
theorem rz (c:Cv) (bd g n j h o:Nat) (w:World) (k:c.Ok) (p:TFl w (some ⟨bd,g,none⟩) (some ⟨j,h,none⟩) bd g j h c.ds c.fs):∀ a,Below w.heap.size w a->Calls Tryz.prog 39 #[.agg #[.int .i64 c.base,.int .i64 c.kind,.slice (some ⟨bd,g,none⟩) c.ds.length n,.slice (some ⟨j,h,none⟩) c.ds.length o]] a fun e l=>(∃ i cx d cy,e=.returned (.agg #[.int .i64 c.base,.int .i64 c.kind,.slice (some ⟨i,0,none⟩) c.ds.length cx,.slice (some ⟨d,0,none⟩) c.ds.length cy])/\OwnC l a.heap.size c i cx d cy)/\Below a.heap.size a l:=fun a s=>by
 have m:=k.len;have t:=k.lo;have b:=p.below s;refine (Cd c.base c.kind bd g n j h o c.ds.length c.ds c.fs a b.x (by rw [<- m];exact b.y) rfl m k.lo k.hi).mono ?_
 rintro e l ⟨i,cx,d,cy,rfl,r,q,u⟩;exact⟨⟨i,cx,d,cy,rfl,r,by rw [m];exact q,by omega,by omega,p.f⟩,u⟩
theorem tV (c d:Cv) (i:Int) (h:Nat) (E:Int) (A z:Option Addr) (bd g l o j n:Nat) (w:World) (F:BmpR c i h d E) (D:h<18446744073709551616) (a:TFl w A z bd g o j c.ds c.fs) :
  Calls Tryz.prog 18 #[.agg #[.int .i64 c.base,.int .i64 c.kind,.slice A c.ds.length l,.slice z c.fs.length n],.int .i64 i,.float .f64 h] w fun e J=>CvO w d E e J:=by
 have u:∀ E,c.Chk E->∀ m,Below w.heap.size w m->_:=fun E B m (b:Below w.heap.size w m)=>dA c.base c.kind A z bd g l o j n c.ds c.fs m (a.below b) (E:=E) B
 cases F with
 | chk E G B=>exact Gd c.base c.kind E i h _ _ w B (u E G)
 | arg ok hi=>
  have s:=ok.len;have I:=ok.lo;have t:=a.x.at_ (by omega)
  have q:=a.y.at_ (by omega)
  subst t q;exact Gf c.base c.kind i h c.ds.length c.fs.length bd g l o j n w hi (u 0 (.ok ok))
 | val ok k p e b=>
  have s:=ok.len;have t:=a.x.at_ (by omega)
  have q:=a.y.at_ (by omega)
  subst t q e;have v:bmE c k h=91:=by unfold bmE;rw [b];rfl
  refine Gg c.base c.kind 91 k h (bmV c k h) c.ds.length c.fs.length bd g l o j n w p (by decide) (u 0 (.ok ok)) (fun m b=>?_)
  have:=kS c k h _ _ bd g l o j n m ok p D (a.below b);rw [v] at this;exact this
 | ok ok k p e b=>
  have s:=ok.len;have t:=a.x.at_ (by omega)
  have q:=a.y.at_ (by omega)
  subst t q e;have C:bmE c k h=0:=by unfold bmE;rw [b];rfl
  obtain⟨_,K,H⟩:=KZ ok a.f p C;have r:=u 0 (.ok ok);rw [s] at r ⊢
  refine KY c c.base c.kind k h (c.bm k h) c.ds.length bd g l o j n w p rfl rfl rfl s H r (fun m b=>?_) (rz c bd g l o j n w ok a)
  have:=kS c k h _ _ bd g l o j n m ok p D (a.below b);rw [C,K,s] at this;exact this
theorem tW (c d:Cv) (h:Nat) (E:Int) (z v:Option Addr) (bd r l t s n:Nat) (w:World) (F:ParR c h d E) (H:h<18446744073709551616) (o:TFl w z v bd r t s c.ds c.fs) :
  Calls Tryz.prog 19 #[.agg #[.int .i64 c.base,.int .i64 c.kind,.slice z c.ds.length l,.slice v c.fs.length n],.float .f64 h] w fun e p=>CvO w d E e p:=by
 have C:∀ E,c.Chk E->∀ m,Below w.heap.size w m->_:=fun E j m (i:Below w.heap.size w m)=>dA c.base c.kind z v bd r l t s n c.ds c.fs m (o.below i) (E:=E) j
 have u:∀ ok:c.Ok,Calls Tryz.prog 19 #[.agg #[.int .i64 c.base,.int .i64 c.kind,.slice z c.ds.length l,.slice v c.fs.length n],.float .f64 h] w fun e p=>((∃ k<c.ds.length,bmE c k h≠0)/\CvO w cv0 91 e p)\/((∀ k<c.ds.length,bmE c k h=0)/\CvO w (c.para h) 0 e p):=fun ok=>by
  have B:=ok.len;have I:=ok.lo;have J:=o.x.at_ (by omega)
  have D:=o.y.at_ (by omega)
  subst J D;have q:=C 0 (.ok ok);rw [B] at q ⊢
  refine Gh c c.base c.kind h c.ds.length bd r l t s n w ok.hi rfl rfl rfl B (fun k g j=>(KZ ok o.f g j).2) (fun k g j=>?_) q (fun k g m i=>?_) (rz c bd r l t s n w ok o)
  ·rcases bmE_cases c k h with a | a
   ·exact absurd a.2 j
   ·exact a.2
  ·have:=kS c k h _ _ bd r l t s n m ok g H (o.below i);rw [B] at this;exact this
 cases F with
 | chk E G j=>exact Ge c.base c.kind E h _ _ w j (C E G)
 | val ok k g i=>
  refine (u ok).mono fun e p b=>?_
  rcases b with b | b
  ·exact b.2
  ·have:=b.1 k g;unfold bmE at this
   rw [i] at this
   exact absurd this (by decide)
 | ok ok i=>
  refine (u ok).mono fun e p b=>?_
  rcases b with⟨⟨k,g,A⟩,_⟩| b
  ·exfalso
   unfold bmE at A
   rw [i k g] at A
   exact A rfl
  ·exact b.2
structure YrD (P:Int) (T:Nat) (np nq:Bool) (X Y:Nat):Prop where
 w1:∀ wx,Calls Tryz.prog 62 #[.int .i64 P] wx fun e w'=>∃ v,e=.returned (.agg #[.bool np,v,.int .i64 0])/\DN w' v X/\Below wx.heap.size wx w'
 w2:∀ wx,Calls Tryz.prog 62 #[.int .i64 365] wx fun e w'=>∃ v,e=.returned (.agg #[.bool nq,v,.int .i64 0])/\DN w' v Y/\Below wx.heap.size wx w'
 w3:∀ vx vy wx,DN wx vx X->DN wx vy Y->Calls Tryz.prog 61 #[.agg #[.bool np,vx,.int .i64 0],.agg #[.bool nq,vy,.int .i64 0]] wx fun e w'=>e=.returned (.int .u64 (T:Int))/\Below wx.heap.size wx w'
theorem PM {base d:Int} (h:base<d) (i:d - base<=109572):∃ g nq X Y,YrD (d - base) (rkT base d) g nq X Y:=
 ⟨_,_,_,_,fun a=>jI _ a (by omega) (by omega),fun a=>jI 365 a (by omega) (by omega),fun b c a e f=>by
  have:=FO (d - base) 365 (decide ((365:Int)<0)) b c a e f (by omega) (by omega) (by omega) (by omega)
  rw [PH (by omega) (by omega)] at this
  exact this⟩
structure FcD (T h f m fm x u:Nat):Prop where
 m1:∀ wx,Calls Tryz.prog 63 #[.int .u64 (h:Int),.int .u64 (T:Int)] wx fun e w'=>e=.returned (.int .u64 (m:Int))/\Below wx.heap.size wx w'
 m2:∀ wx,Calls Tryz.prog 34 #[.int .u64 (m:Int)] wx fun e w'=>e=.returned (.int .u64 (fm:Int))/\wx=w'
 m3:∀ wx,Calls Tryz.prog 64 #[.int .u64 (fm:Int)] wx fun e w'=>e=.returned (.int .u64 (x:Int))/\Below wx.heap.size wx w'
 m4:∀ wx,Calls Tryz.prog 63 #[.int .u64 (f:Int),.int .u64 (x:Int)] wx fun e w'=>e=.returned (.int .u64 (u:Int))/\Below wx.heap.size wx w'
theorem PN {c:Cv} {k h:Nat} (e:c.Ok) (g:c.Fit) (f:k<c.ds.length) (n:h<18446744073709551616) (hn:af h):∃ m r x,FcD (rkT c.base (c.ds.getD k 0)) h (c.fs.getD k 0) m r x (c.bm k h):=by
 obtain⟨q,u⟩:=e.day f;have v:=e.b0;obtain⟨p,i⟩:=oP q (by omega)
 obtain⟨m,t,b,j,l⟩:=BW (base:=c.base) (d:=c.ds.getD k 0) hn p;obtain⟨_,s,_,_,_⟩:=zF e g f hn;have o:=g k (by rw [e.len];exact f)
 refine⟨m,flipN m,rkX c.base (c.ds.getD k 0) h,fun a=>?_,fun a=>fB m m _ a rfl (ag b) rfl,fun a=>?_,fun a=>?_⟩
 ·have:=cU h (rkT c.base (c.ds.getD k 0)) _ _ a rfl rfl (ag n) (ag i);rw [t,ar] at this
  exact this
 ·have:=(ce (cz b).1).doc a;rw [j,ar] at this
  exact this
 ·have:=cU (c.fs.getD k 0) (rkX c.base (c.ds.getD k 0) h) _ _ a rfl rfl (ag o) (ag (by omega))
  rw [s,ar] at this
  exact this
noncomputable def bqV (c:Cv) (i j h k:Nat):Nat:=if i<=k/\k<j then c.bm k h else c.fs.getD k 0
noncomputable def bqL (c:Cv) (i j h n:Nat):List Nat:=(List.range n).map (bqV c i j h)
theorem La (c:Cv) (i j h k:Nat):bqL c i j h (k+1)=bqL c i j h k++[bqV c i j h k]:=by
 unfold bqL;rw [List.range_succ,List.map_append];rfl
theorem eL (c:Cv) (i j h k:Nat):(bqL c i j h k).length=k:=by unfold bqL;simp
theorem PO (w:World) (base kind:Int) (d l:Value):OfC w base kind d l (.slice none 0 0) (((w.alloc (.cells #[.int .i64 base,.int .i64 kind,d,l] 39)).alloc (.cells #[.int .i64 0,.int .i64 0,.slice none 0 0,.slice none 0 0] 39)).alloc (.cells #[.int .i64 base,.int .i64 kind,d,.slice none 0 0] 39)):=by
 have g:∀ (w:World) o,Below w.heap.size w (w.alloc o):=fun w o=>(Below.refl _ _).alloc (Nat.le_refl _) _
 generalize f:w.alloc (.cells #[.int .i64 base,.int .i64 kind,d,l] 39)=c;have m:c.heap.size=w.heap.size+1:=by rw [<- f];simp
 generalize b:c.alloc (.cells #[.int .i64 0,.int .i64 0,.slice none 0 0,.slice none 0 0] 39)=a;have q:a.heap.size=w.heap.size+2:=by rw [<- b];simp [m]
 have c1:∀ j,c.cell? ⟨w.heap.size,j,none⟩=(#[.int .i64 base,.int .i64 kind,d,l]:Array Value)[j]? :=fun j=>by rw [<- f];exact cP w _ _ j
 have c2:∀ j,a.cell? ⟨w.heap.size+1,j,none⟩=(#[.int .i64 0,.int .i64 0,.slice none 0 0,.slice none 0 0]:Array Value)[j]? :=fun j=>by rw [<- b,<- m];exact cP c _ _ j
 have c3:∀ j,(a.alloc (.cells #[.int .i64 base,.int .i64 kind,d,.slice none 0 0] 39)).cell? ⟨w.heap.size+2,j,none⟩=(#[.int .i64 base,.int .i64 kind,d,.slice none 0 0]:Array Value)[j]? :=fun j=>by rw [<- q];exact cP a _ _ j
 have i:∀ j,a.cell? ⟨w.heap.size,j,none⟩=c.cell? ⟨w.heap.size,j,none⟩:=fun j=>by rw [<- b];exact (g c _).cell (p:=⟨w.heap.size,j,none⟩) (by show w.heap.size<c.heap.size;omega)
 have e:∀ k<2,∀ j o,(a.alloc o).cell? ⟨w.heap.size+k,j,none⟩=a.cell? ⟨w.heap.size+k,j,none⟩:=fun k t j o=>(g a o).cell (p:=⟨w.heap.size+k,j,none⟩) (by show w.heap.size+k<a.heap.size;omega)
 have h:∀ j o,(a.alloc o).frozen? ⟨w.heap.size+1,j,none⟩=false:=fun j o=>by
  rw [(g a o).frozen (p:=⟨w.heap.size+1,j,none⟩) (by show w.heap.size+1<a.heap.size;omega),<- b,<- m]
  exact World.frozen?_alloc_new _ _ _ _
 have s:Below w.heap.size w (a.alloc (.cells #[.int .i64 base,.int .i64 kind,d,.slice none 0 0] 39)):=by
  have n:Below w.heap.size w c:=by rw [<- f];exact g w _
  have r:Below w.heap.size w a:=by rw [<- b];exact n.alloc n.size _
  exact r.alloc r.size _
 exact⟨((e 0 (by omega) 0 _).trans (i 0)).trans (c1 0),((e 0 (by omega) 1 _).trans (i 1)).trans (c1 1),((e 0 (by omega) 2 _).trans (i 2)).trans (c1 2),((e 0 (by omega) 3 _).trans (i 3)).trans (c1 3),(e 1 (by omega) 0 _).trans (c2 0),(e 1 (by omega) 1 _).trans (c2 1),(e 1 (by omega) 2 _).trans (c2 2),(e 1 (by omega) 3 _).trans (c2 3),h 0 _,h 1 _,h 2 _,h 3 _,c3 0,c3 1,c3 2,c3 3,by rw [<- q];exact World.frozen?_alloc_new _ _ _ _,s,by simp;omega⟩
structure BqO (w:World) (base kind:Int) (px:Option Addr) (n cx:Nat) (L:List Nat) (bad:Bool) (e:Ending) (w':World):Prop where
 no:bad=true->e=.returned (.tuple #[.agg #[.int .i64 0,.int .i64 0,.slice none 0 0,.slice none 0 0],.int .i64 91])
 yes:bad=false->∃ v,e=.returned (.tuple #[.agg #[.int .i64 base,.int .i64 kind,.slice px n cx,v],.int .i64 0])/\w'.ownsRow w.heap.size 41 1 v n (L.map uV)
 bl:Below w.heap.size w w'
theorem OfC.step {w wr a:World} {base kind:Int} {d c b:Value} (h:OfC w base kind d c b wr) (e:Below wr.heap.size wr a):OfC w base kind d c b a:=h.stay (e.mono h.sz)
theorem OfC.drewN {w wr:World} {base kind:Int} {c b a:Value} (h:OfC w base kind c b a wr) (q:Nat):OfC w base kind c b a (wr.drewN q):=h.stay ⟨rfl,rfl,rfl,Nat.le_refl _,fun _ _=>rfl⟩
theorem ks (c:Cv) (i j h n K:Nat) (Q py:Option Addr) (V W cx b2 oy cy:Nat) (w:World) (ok:c.Ok) (B:CSrcD w Q py V W b2 oy c.ds c.fs) (hv:c.Fit) (hn:c.ds.length=n) (hh:h<18446744073709551616) (hf:aM (h:Int)=true) (hK:K<=n) (N:∀ t<K,i<=t->t<j->bmB c t h=true) (al:K<n->i<=K/\K<j/\bmB c K h=false) :
  Calls Tryz.prog 43 #[.agg #[.int .i64 c.base,.int .i64 c.kind,.slice Q n cx,.slice py n cy],.int .i64 i,.int .i64 j,.int .u64 (h:Int)] w fun e w'=>BqO w c.base c.kind Q n cx (bqL c i j h n) (decide (K<n)) e w':=by
 have dy:n<=255:=by rw [<- hn];exact ok.hi
 have bs:Hid (∀ k<n,c.base<c.ds.getD k 0/\c.ds.getD k 0<=109572/\0<=c.base):=fun k hk=>⟨(ok.day (k:=k) (by omega)).1,(ok.day (k:=k) (by omega)).2,ok.b0⟩
 have bv:Hid (∀ k<n,∃ m fm x,FcD (rkT c.base (c.ds.getD k 0)) h (c.fs.getD k 0) m fm x (c.bm k h)):=fun k hk=>PN ok hv (by omega) hh (cC hf)
 have cl:Hid (∀ k<n,c.bm k h<18446744073709551616/\ah (c.bm k h:Nat)=false):=fun k hk=>by
  obtain⟨_,_,a,b,_⟩:=zF (k:=k) ok hv (by omega) (cC hf)
  exact⟨a,b⟩
 have cc:Hid (∀ k,bmB c k h=rkB (c.bm k h)):=fun k=>by unfold bmB;rw [hf];exact Bool.true_and _
 have dp:=ok.len;have Hx:Hid (c.ds.length=n):=hn;have Hy:Hid (c.fs.length=n):=by show _=_;omega
 have bz:=hideS N;have dg:=hideS al;clear ok hv hn hf N al dp hh;obtain⟨base,F⟩:∃ b,c.base=b:=⟨_,rfl⟩;obtain⟨kind,U⟩:∃ b,c.kind=b:=⟨_,rfl⟩;rw [F] at bs bv
 rw [F,U];clear F U;have HY:=hideS B;have s:=hideS (PO w base kind (.slice Q n cx) (.slice py n cy));have p0:∀ o,((w.alloc (.cells #[.int .i64 base,.int .i64 kind,(.slice Q n cx),.slice py n cy] 39)).alloc o).cell? ⟨w.heap.size,0,none⟩=some (.int .i64 base):=fun o=>kP w _ _ o 0
 have p1:∀ o,((w.alloc (.cells #[.int .i64 base,.int .i64 kind,(.slice Q n cx),.slice py n cy] 39)).alloc o).cell? ⟨w.heap.size,1,none⟩=some (.int .i64 kind):=fun o=>kP w _ _ o 1
 have p2:∀ o,((w.alloc (.cells #[.int .i64 base,.int .i64 kind,(.slice Q n cx),.slice py n cy] 39)).alloc o).cell? ⟨w.heap.size,2,none⟩=some (.slice Q n cx):=fun o=>kP w _ _ o 2
 clear B
 go_enter Tryz.func43,Tryz.ntmps43
 go_wp2_with fail
 clear p0 p1 p2
 go_loopw [11,12,13] (fun a _ _ wr=>∃ k:Nat,k<=K/\a=.int .i64 k/\Hid (∃ v,wr.ownsRow (w.heap.size+3) 41 1 v k ((bqL c i j h k).map uV)/\OfC w base kind (.slice Q n cx) (.slice py n cy) v wr)) (fun a _ _ _=>n - (intOf a).toNat)
 case atStart=>exact⟨0,Nat.zero_le _,rfl,_,gF _ _,s.out⟩
 case round=>
  clear s;obtain⟨k,hk,rfl,HH⟩:=hrel;obtain⟨v,ho,hb⟩:=HH.out;obtain⟨q0,g0,y,rfl,_,_,_,_⟩:=bq ho (eL _ _ _ _ _);have HO:=hideS ho;have s:=hideS hb;clear ho hb HH;have t3:=s.out.t3
  by_cases E:k<n
  ·obtain rfl:=HY.out.f.at_ (by rw [Hy.out];omega)
   obtain rfl:=HY.out.d.at_ (by rw [Hx.out];omega)
   have dE:wr.cell? ⟨b2,oy+k,none⟩=some (.int .u64 (c.fs.getD k 0:Nat)):=(s.out.bl.cell (p:=⟨b2,oy+k,none⟩) (HY.out.f.lt (by rw [Hy.out];omega))).trans (HY.out.f.cell k (by rw [Hy.out];exact E))
   have ca:wr.cell? ⟨V,W+k,none⟩=some (.int .i64 (c.ds.getD k 0)):=(s.out.bl.cell (p:=⟨V,W+k,none⟩) (HY.out.d.lt (by rw [Hx.out];omega))).trans (HY.out.d.cell k (by rw [Hx.out];exact E))
   have Z:Hid (∀ wx,Below w.heap.size w wx->wx.cell? ⟨V,W+k,none⟩=some (.int .i64 (c.ds.getD k 0))):=fun wx hb=>(hb.cell (p:=⟨V,W+k,none⟩) (HY.out.d.lt (by rw [Hx.out];omega))).trans (HY.out.d.cell k (by rw [Hx.out];exact E))
   obtain⟨d0,d1,d2⟩:=bs.out k E;obtain⟨m,fm,x,hF⟩:=bv.out k E;obtain⟨np,nq,X,Y,hP⟩:=PM d0 (by omega)
   have HF:=hideS hF;have HP:=hideS hP;have C:=hideS (La c i j h k);have hV:bqV c i j h k=if i<=k/\k<j then c.bm k h else c.fs.getD k 0:=rfl
   obtain⟨ul,un⟩:=cl.out k E;have l:=cc.out k;unfold rkB at l
   have ad:ltB 0 (c.bm k h:Nat)=decide (0<ae (c.bm k h:Nat)):=by rw [aC (by decide) un,show ae 0=0 by decide]
   rw [<- ad] at l
   have bo:=hideS fun wx=>co (c.bm k h:Nat) wx (ag ul)
   have br:=hideS fun wx=>go 0 (c.bm k h:Nat) wx (by unfold U64;omega) (ag ul)
   have H:=bz.out k;have G:=dg.out;clear hF hP ad un;obtain⟨P,cp⟩:∃ P,c.ds.getD k 0 - base=P:=⟨_,rfl⟩;have cs:IntKind.i64.wrap (c.ds.getD k 0 - base)=P:=by rw [IntKind.wrap_i64];omega
   rw [cp] at HP
   generalize aM (c.bm k h:Nat)=b1 at *
   generalize ltB 0 (c.bm k h:Nat)=dd at *
   generalize rkT base (c.ds.getD k 0)=T at *
   generalize c.bm k h=u at *
   generalize c.fs.getD k 0=f at *
   generalize c.ds.getD k 0=D at *
   have l1:(0:Int)<=(k:Int):=Int.natCast_nonneg _;have l2:(k:Int)<(n:Int):=by omega
   clear cp d0 d1 d2
   by_cases R:i<=k/\k<j
   ·rw [if_pos R] at hV
    rw [hV] at C
    have l3:(i:Int)<=(k:Int):=by omega
    have l4:(k:Int)<(j:Int):=by omega
    obtain⟨db,cm⟩:=R;clear hV
    go_wp2_with fail
    have cd:=hideS (And.intro s.out.t0 (And.intro s.out.t2 (Z.out _ s.out.bl)));clear t3 dE ca
    go_region_held3 (fun w'=>w'.cell? ⟨w.heap.size,0,none⟩=some (.int .i64 base)/\w'.cell? ⟨w.heap.size,2,none⟩=some (.slice (some ⟨V,W,none⟩) n cx)/\w'.cell? ⟨V,W+k,none⟩=some (.int .i64 D)) (first | exact cd.out | exact dc.out | exact df.out | exact ct.out | go_keep) (first | ((go_at_call_of 62 (Value.int IntKind.i64 P);refine (HP.out.w1 _).mono ?_;rintro e w2 ⟨vx,rfl,am,bi⟩;obtain⟨p1,n1,c1,rfl⟩:=dt am;have O:=hideS (s.out.step ((Below.refl wr.heap.size wr).drew.trans bi));have di:=hideS (ao HO.out ((Below.refl wr.heap.size wr).drew.trans bi));have dc:=hideS (And.intro O.out.t0 (And.intro O.out.t2 (Z.out _ O.out.bl)));have cu:=hideS am;clear bi am)) | ((go_at_call_of 62 (Value.int IntKind.i64 365);refine (HP.out.w2 _).mono ?_;rintro e w3 ⟨vy,rfl,bh,ab⟩;obtain⟨p2,n2,c2,rfl⟩:=dt bh;have S:=hideS (O.out.step ab);have cq:=hideS (ao di.out ab);have df:=hideS (And.intro S.out.t0 (And.intro S.out.t2 (Z.out _ S.out.bl)));have ai:=hideS (cu.out.below ab);have ak:=hideS bh;clear ab bh)) | ((go_at_call 61;refine (HP.out.w3 _ _ _ ai.out ak.out).mono ?_;rintro e w4 ⟨rfl,bc⟩;have M:=hideS (S.out.step bc);have ci:=hideS (ao cq.out bc);have ct:=hideS (And.intro M.out.t0 (And.intro M.out.t2 (Z.out _ M.out.bl)));clear bc)))
    all_goals
     clear s O S HO di cq cd dc df ct HP cu ai ak cs
     go_wp2_with fail
     refine (HF.out.m1 _).mono ?_
     rintro e w5 ⟨rfl,ba⟩;have da:=hideS (M.out.step ba);have cr:=hideS (ao ci.out ba);clear ba M ci
     go_wp2_with fail
     refine (HF.out.m2 _).mono ?_
     rintro e w6 ⟨rfl,rfl⟩
     go_wp2_with fail
     refine (HF.out.m3 _).mono ?_
     rintro e w7 ⟨rfl,bb⟩;have cf:=hideS (da.out.step bb);have cv:=hideS (ao cr.out bb);clear bb da cr
     go_wp2_with fail
     refine (HF.out.m4 _).mono ?_
     rintro e w8 ⟨rfl,bk⟩;have I:=hideS (cf.out.step bk);have dx:=hideS (ao cv.out bk);clear bk cf cv HF
     go_wp2_with fail
     refine (turned (bo.out _)).mono ?_
     rintro e w9 ⟨rfl,rfl⟩;cases b1
     ·have l:bmB c k h=false:=l;obtain rfl:k=K:=Nat.le_antisymm hk (Nat.le_of_not_lt fun e=>by have:=H e db cm;rw [l] at this;cases this)
      clear H G l C;obtain⟨_,_,_,_,d0,d1,d2,d3,e0,e1,e2,e3,_,_,_,_,_,_,_⟩:=I.out
      go_wp2_with fail
      refine bodyPost_ret (v:=.tuple #[.agg #[.int .i64 0,.int .i64 0,.slice none 0 0,.slice none 0 0],.int .i64 91]) (by simp [results,Tryz.results43,go_sem,d0,d1,d2,d3]) rfl ?_
      have B:∀ j,w.heap.size<=(⟨w.heap.size+1,j,none⟩:Addr).block:=fun j=>by show w.heap.size<=w.heap.size+1;omega
      have L:Below w.heap.size w ((((w8.setCell ⟨w.heap.size+1,0,none⟩ (.int .i64 0)).setCell ⟨w.heap.size+1,1,none⟩ (.int .i64 0)).setCell ⟨w.heap.size+1,2,none⟩ (.slice none 0 0)).setCell ⟨w.heap.size+1,3,none⟩ (.slice none 0 0)):=(((I.out.bl.setCell (B 0) _).setCell (B 1) _).setCell (B 2) _).setCell (B 3) _;exact⟨fun _=>rfl,fun e=>(by first | exact absurd E (of_decide_eq_false e) | cases e),L⟩
     ·have l:bmB c k h=dd:=l
      go_wp2_with fail
      refine (turned (br.out _)).mono ?_
      rintro e w9 ⟨rfl,rfl⟩;cases dd
      ·skip
       obtain rfl:k=K:=Nat.le_antisymm hk (Nat.le_of_not_lt fun e=>by have:=H e db cm;rw [l] at this;cases this)
       clear H G l C;obtain⟨_,_,_,_,d0,d1,d2,d3,e0,e1,e2,e3,_,_,_,_,_,_,_⟩:=I.out
       go_wp2_with fail
       refine bodyPost_ret (v:=.tuple #[.agg #[.int .i64 0,.int .i64 0,.slice none 0 0,.slice none 0 0],.int .i64 91]) (by simp [results,Tryz.results43,go_sem,d0,d1,d2,d3]) rfl ?_
       have B:∀ j,w.heap.size<=(⟨w.heap.size+1,j,none⟩:Addr).block:=fun j=>by show w.heap.size<=w.heap.size+1;omega
       have L:Below w.heap.size w ((((w8.setCell ⟨w.heap.size+1,0,none⟩ (.int .i64 0)).setCell ⟨w.heap.size+1,1,none⟩ (.int .i64 0)).setCell ⟨w.heap.size+1,2,none⟩ (.slice none 0 0)).setCell ⟨w.heap.size+1,3,none⟩ (.slice none 0 0)):=(((I.out.bl.setCell (B 0) _).setCell (B 1) _).setCell (B 2) _).setCell (B 3) _;exact⟨fun _=>rfl,fun e=>(by first | exact absurd E (of_decide_eq_false e) | cases e),L⟩
      ·have dk:k<K:=Nat.lt_of_le_of_ne hk (fun e=>by obtain⟨_,_,a3⟩:=G (by omega);rw [<- e,l] at a3;cases a3)
       have HN:=C;clear H G l C bo br ul;have z:Hid (∀ o,(w8.alloc o).ownsRow (w.heap.size+3) 41 1 (.slice q0 k y) k ((bqL c i j h k).map uV)):=fun o=>ao dx.out ((Below.refl _ w8).alloc (Nat.le_refl _) o)
       have g:Hid (∀ o,OfC w base kind (.slice (some ⟨V,W,none⟩) n cx) (.slice (some ⟨b2,oy,none⟩) n cy) (.slice q0 k y) (w8.alloc o)):=fun o=>I.out.step ((Below.refl _ w8).alloc (Nat.le_refl _) o)
       have o3:=I.out.o3;have y3:=(g.out (.cells #[.int .u64 (u:Int)] 41)).o3
       go_wp2_with (at_builtin;refine aH _ rfl (.tmp 69) (.tmp 71) rfl (w.heap.size+3) _ k (bqL c i j h k) rfl (z.out _) w8.heap.size u rfl (by simp) (by omega) (g.out (.cells #[.int .u64 (u:Int)] 41)).sz ?_;intro v6 w6 r A;obtain⟨q6,g6,c6,rfl,_,_,_,_⟩:=bq r (by rw [List.length_append,eL];rfl);have q:=hideS ((g.out _).stay (aW (z.out _) A (g.out (.cells #[.int .u64 (u:Int)] 41)).sz));have J:=hideS r;have c2:=q.out.o3;have c3:=q.out.f3;clear r A o3 y3)
       go_roundw
       case rel=>exact⟨k+1,by omega,by simp,_,by rw [HN.out];exact bt J.out (by omega) _,q.out.put _⟩
       case measure=>simp [intOf];omega
   ·rw [if_neg R] at hV
    rw [hV] at C
    have HN:=C;have dk:k<K:=by
     apply Nat.lt_of_le_of_ne hk;intro e;obtain⟨a1,a2,_⟩:=G (by omega)
     omega
    clear C HF HP bo br l H G cs ca ul;have l5:(i:Int)<=(k:Int)->¬ (k:Int)<(j:Int):=by omega
    by_cases l3:(i:Int)<=(k:Int)
    ·have l4:=l5 l3;clear l5 R;have z:Hid (∀ o,(wr.alloc o).ownsRow (w.heap.size+3) 41 1 (.slice q0 k y) k ((bqL c i j h k).map uV)):=fun o=>ao HO.out ((Below.refl _ wr).alloc (Nat.le_refl _) o)
     have g:Hid (∀ o,OfC w base kind (.slice (some ⟨V,W,none⟩) n cx) (.slice (some ⟨b2,oy,none⟩) n cy) (.slice q0 k y) (wr.alloc o)):=fun o=>s.out.step ((Below.refl _ wr).alloc (Nat.le_refl _) o)
     have o3:=s.out.o3;have y3:=(g.out (.cells #[.int .u64 (f:Int)] 41)).o3
     go_wp2_with (at_builtin;refine aH _ rfl (.tmp 69) (.tmp 71) rfl (w.heap.size+3) _ k (bqL c i j h k) rfl (z.out _) wr.heap.size f rfl (by simp) (by omega) (g.out (.cells #[.int .u64 (f:Int)] 41)).sz ?_;intro v6 w6 r A;obtain⟨q6,g6,c6,rfl,_,_,_,_⟩:=bq r (by rw [List.length_append,eL];rfl);have q:=hideS ((g.out _).stay (aW (z.out _) A (g.out (.cells #[.int .u64 (f:Int)] 41)).sz));have J:=hideS r;have c2:=q.out.o3;have c3:=q.out.f3;clear r A o3 y3)
     go_roundw
     case rel=>exact⟨k+1,by omega,by simp,_,by rw [HN.out];exact bt J.out (by omega) _,q.out.put _⟩
     case measure=>simp [intOf];omega
    ·have l6:(k:Int)<(i:Int):=by omega
     clear l5 R l3;have z:Hid (∀ o,(wr.alloc o).ownsRow (w.heap.size+3) 41 1 (.slice q0 k y) k ((bqL c i j h k).map uV)):=fun o=>ao HO.out ((Below.refl _ wr).alloc (Nat.le_refl _) o)
     have g:Hid (∀ o,OfC w base kind (.slice (some ⟨V,W,none⟩) n cx) (.slice (some ⟨b2,oy,none⟩) n cy) (.slice q0 k y) (wr.alloc o)):=fun o=>s.out.step ((Below.refl _ wr).alloc (Nat.le_refl _) o)
     have o3:=s.out.o3;have y3:=(g.out (.cells #[.int .u64 (f:Int)] 41)).o3
     go_wp2_with (at_builtin;refine aH _ rfl (.tmp 69) (.tmp 71) rfl (w.heap.size+3) _ k (bqL c i j h k) rfl (z.out _) wr.heap.size f rfl (by simp) (by omega) (g.out (.cells #[.int .u64 (f:Int)] 41)).sz ?_;intro v6 w6 r A;obtain⟨q6,g6,c6,rfl,_,_,_,_⟩:=bq r (by rw [List.length_append,eL];rfl);have q:=hideS ((g.out _).stay (aW (z.out _) A (g.out (.cells #[.int .u64 (f:Int)] 41)).sz));have J:=hideS r;have c2:=q.out.o3;have c3:=q.out.f3;clear r A o3 y3)
     go_roundw
     case rel=>exact⟨k+1,by omega,by simp,_,by rw [HN.out];exact bt J.out (by omega) _,q.out.put _⟩
     case measure=>simp [intOf];omega
  ·obtain rfl:k=n:=by omega
   have dn:¬ K<k:=by omega
   clear bz dg bs bv cl cc;have dY:¬ (k:Int)<(k:Int):=by omega
   have ea:=s.out.sz;obtain⟨t0,t1,t2,_,d0,d1,d2,d3,e0,e1,e2,e3,o0,o1,o2,o3,f3,_,_⟩:=s.out
   go_wp2_with fail
   refine bodyPost_ret (v:=.tuple #[.agg #[.int .i64 base,.int .i64 kind,.slice Q k cx,.slice q0 k y],.int .i64 0]) (by simp [results,Tryz.results43,go_sem,d0,d1,d2,d3]) rfl ?_
   have B:∀ j,w.heap.size<=(⟨w.heap.size+1,j,none⟩:Addr).block:=fun j=>by show w.heap.size<=w.heap.size+1;omega
   have L:Below w.heap.size w ((((wr.setCell ⟨w.heap.size+1,0,none⟩ (.int .i64 base)).setCell ⟨w.heap.size+1,1,none⟩ (.int .i64 kind)).setCell ⟨w.heap.size+1,2,none⟩ (.slice Q k cx)).setCell ⟨w.heap.size+1,3,none⟩ (.slice q0 k y)):=(((s.out.bl.setCell (B 0) _).setCell (B 1) _).setCell (B 2) _).setCell (B 3) _;exact⟨fun e=>(by first | exact absurd (of_decide_eq_true e) dn | cases e),fun _=>⟨_,rfl,fX (bt (bt (bt (bt HO.out (by omega) _) (by omega) _) (by omega) _) (by omega) _) (by omega)⟩,L⟩
end Go.Proofs.YtfdddijdjpijbaaGreat
