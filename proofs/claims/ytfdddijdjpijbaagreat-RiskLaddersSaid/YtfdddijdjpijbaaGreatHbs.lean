/-  -/
import Derived.Test.YtfdddijdjpijbaaGreatHbr
import Derived.Test.YtfdddijdjpijbaaGreatRkS
import Derived.Test.YtfdddijdjpijbaaGreatHax
import Derived.Test.YtfdddijdjpijbaaGreatHbq
import Derived.Test.YtfdddijdjpijbaaGreatHbn
import Derived.Test.YtfdddijdjpijbaaGreatHba
import Derived.Test.YtfdddijdjpijbaaGreatHay
set_option maxHeartbeats 12800000
set_option maxRecDepth 40000
namespace Go.Proofs.YtfdddijdjpijbaaGreat
open Go.RowKit
structure OwnC (w:World) (B:Nat) (d:Cv) (gx cx gy cy:Nat):Prop where
 x:w.ownsRow B 3 1 (.slice (some ⟨gx,0,none⟩) d.ds.length cx) d.ds.length (d.ds.map kV)
 y:w.ownsRow B 27 1 (.slice (some ⟨gy,0,none⟩) d.fs.length cy) d.fs.length (d.fs.map fV)
 n:0<d.ds.length
 m:0<d.fs.length
 f:d.Fit
theorem OwnC.src {w:World} {B:Nat} {d:Cv} {j cx i cy:Nat} (h:OwnC w B d j cx i cy):TFl w (some ⟨j,0,none⟩) (some ⟨i,0,none⟩) j 0 i 0 d.ds d.fs:=by
 obtain⟨g,c,e,l,_⟩:=dz h.x rfl h.n;obtain⟨p,q,o,k,_⟩:=dO h.y rfl h.m;injection e with b _ _;injection b with b;injection b with b;injection o with a _ _;injection a with a;injection a with a;subst b a;exact⟨l,k,h.f⟩
theorem OwnC.below {w a:World} {B:Nat} {d:Cv} {c cx b cy:Nat} (h:OwnC w B d c cx b cy) (e:Below w.heap.size w a):OwnC a B d c cx b cy:=⟨cX h.x e,cX h.y e,h.n,h.m,h.f⟩
theorem OwnC.mono {w:World} {B B':Nat} {d:Cv} {b cx a cy:Nat} (h:OwnC w B d b cx a cy) (c:B'<=B):OwnC w B' d b cx a cy:=⟨bO h.x c,bO h.y c,h.n,h.m,h.f⟩
theorem OwnC.put {w:World} {B b j:Nat} {d:Cv} {c cx a cy:Nat} (h:OwnC w B d c cx a cy) (e:b<B) (x:Value):OwnC (w.setCell ⟨b,j,none⟩ x) B d c cx a cy:=⟨ax h.x e x,ax h.y e x,h.n,h.m,h.f⟩
structure CvO (w:World) (d:Cv) (E:Int) (e:Ending) (w':World):Prop where
 bad:E≠0->e=.returned (.tuple #[.agg #[.int .i64 0,.int .i64 0,.slice none 0 0,.slice none 0 0],.int .i64 E])
 ok:E=0->∃ gx cx gy cy,e=.returned (.tuple #[.agg #[.int .i64 d.base,.int .i64 d.kind,.slice (some ⟨gx,0,none⟩) d.ds.length cx,.slice (some ⟨gy,0,none⟩) d.fs.length cy],.int .i64 0])/\OwnC w' w.heap.size d gx cx gy cy
 bl:Below w.heap.size w w'
structure CpB (w:World) (base kind:Int) (vd vf:Value) (wr:World):Prop where
 k:BxK wr w.heap.size base kind vd vf
 z:wr.heap[w.heap.size+1]? =some au
 bl:Below w.heap.size w wr
theorem CpB.step {w wr c:World} {base kind:Int} {d b:Value} (h:CpB w base kind d b wr) (a:Below wr.heap.size wr c):CpB w base kind d b c:=
 ⟨h.k.step a,(a.block _ (Array.getElem?_eq_some_iff.1 h.z).1).trans h.z,h.bl.trans (a.mono h.bl.size)⟩
theorem CpB.stay {w wr c:World} {B:Nat} {base kind:Int} {d b:Value} (h:CpB w base kind d b wr) (a:Below B wr c) (e:w.heap.size+2<=B):CpB w base kind d b c:=
 ⟨⟨(a.block _ (by omega)).trans h.k.blk⟩,(a.block _ (by omega)).trans h.z,h.bl.trans (a.mono (by omega))⟩
theorem CpB.sz {w wr:World} {base kind:Int} {b a:Value} (h:CpB w base kind b a wr):w.heap.size+2<=wr.heap.size:=(Array.getElem?_eq_some_iff.1 h.z).1
theorem iN (w:World) (base kind:Int) (b a:Value):CpB w base kind b a ((w.alloc (.cells #[.int .i64 base,.int .i64 kind,b,a] 26)).alloc au):=by
 have c:(w.alloc (.cells #[.int .i64 base,.int .i64 kind,b,a] 26)).heap.size=w.heap.size+1:=by simp
 refine⟨(qU w base kind b a).step ((Below.refl _ _).alloc (Nat.le_refl _) _),?_,((Below.refl _ _).alloc (Nat.le_refl _) _).alloc (by rw [c];omega) _⟩
 rw [<- c];exact heap_alloc_new _ _
theorem CpB.put {w wr:World} {base kind:Int} {b a:Value} (h:CpB w base kind b a wr) (x y:Value):CpB w base kind x y ((wr.setCell ⟨w.heap.size,2,none⟩ x).setCell ⟨w.heap.size,3,none⟩ y):=by
 refine⟨⟨av _ (av _ h.k.blk)⟩,?_,(h.bl.setCell (p:=⟨w.heap.size,2,none⟩) (Nat.le_refl _) x).setCell (p:=⟨w.heap.size,3,none⟩) (Nat.le_refl _) y⟩
 rw [Below.heap_setCell _ ⟨w.heap.size,3,none⟩ y _ (by show w.heap.size+1≠w.heap.size;omega),Below.heap_setCell _ ⟨w.heap.size,2,none⟩ x _ (by show w.heap.size+1≠w.heap.size;omega)]
 exact h.z
theorem BxK.frz {w:World} {g:Nat} {base kind:Int} {b a:Value} (h:BxK w g base kind b a) (i:Nat):w.frozen? ⟨g,i,none⟩=false:=frozen_of_row _ _ i _ _ h.blk
theorem Cd (base kind:Int) (bd r x p s y n:Nat) (G:List Int) (M:List Nat) (w:World) (hd:VSrc w (some ⟨bd,r,none⟩) bd r n (xV G)) (hf:VSrc w (some ⟨p,s,none⟩) p s n (flV M)) (hl:G.length=n) (R:M.length=n) (hn:1<=n) (as:n<=255) :
  Calls Tryz.prog 39 #[.agg #[.int .i64 base,.int .i64 kind,.slice (some ⟨bd,r,none⟩) n x,.slice (some ⟨p,s,none⟩) n y]] w fun e w'=>∃ d cx f cy,e=.returned (.agg #[.int .i64 base,.int .i64 kind,.slice (some ⟨d,0,none⟩) n cx,.slice (some ⟨f,0,none⟩) n cy])/\w'.ownsRow w.heap.size 3 1 (.slice (some ⟨d,0,none⟩) n cx) n (G.map kV)/\w'.ownsRow w.heap.size 27 1 (.slice (some ⟨f,0,none⟩) n cy) n (M.map fV)/\Below w.heap.size w w':=by
 have J:=hideS (iN w base kind (.slice (some ⟨bd,r,none⟩) n x) (.slice (some ⟨p,s,none⟩) n y));have P:=hideS fun q (hb:Below w.heap.size w q)=>BZ bd r n x G q (hd.below hb) hl (by omega) (by omega)
 have K:=hideS fun q (hb:Below w.heap.size w q)=>Ca p s n y M q (hf.below hb) R (by omega) (by omega)
 clear hd hf hl R;obtain⟨b,C⟩:∃ b,(w.alloc (.cells #[.int .i64 base,.int .i64 kind,.slice (some ⟨bd,r,none⟩) n x,.slice (some ⟨p,s,none⟩) n y] 26)).alloc au=b:=⟨_,rfl⟩;rw [C] at J
 unfold au at C
 obtain⟨T,U,E,F⟩:=J.out.k.t
 go_enter Tryz.func39,Tryz.ntmps39
 go_wp2_with fail
 clear C;refine ry (fun xw=>xw.cell? ⟨w.heap.size,2,none⟩=some (.slice (some ⟨bd,r,none⟩) n x)/\xw.cell? ⟨w.heap.size,3,none⟩=some (.slice (some ⟨p,s,none⟩) n y)) (fun i=>i==7||i==8||i==9) (by kernel_rfl) ?_
 have o:b.drew.cell? ⟨w.heap.size,2,none⟩=some (.slice (some ⟨bd,r,none⟩) n x)/\b.drew.cell? ⟨w.heap.size,3,none⟩=some (.slice (some ⟨p,s,none⟩) n y):=⟨E,F⟩;refine gU 0 (.pointer (some ⟨w.heap.size,2,none⟩)) rfl (by kernel_rfl) (by kernel_rfl) (by kernel_rfl) (by kernel_rfl) (by kernel_rfl) (fun _ _ _ h=>h) (by rfl) o (fun q u=>by obtain⟨V,S⟩:=u;go_simp) ?_
 simp only [Act.put,List.setIfInBounds_toArray];refine gU 1 (.slice (some ⟨bd,r,none⟩) n x) rfl (by kernel_rfl) (by kernel_rfl) (by kernel_rfl) (by kernel_rfl) (by kernel_rfl) (fun _ _ _ h=>h) (by rfl) o (fun q u=>by obtain⟨V,S⟩:=u;go_simp) ?_
 simp only [Act.put];refine gU 3 (.pointer (some ⟨w.heap.size,3,none⟩)) rfl (by kernel_rfl) (by kernel_rfl) (by kernel_rfl) (by kernel_rfl) (by kernel_rfl) (fun _ _ _ h=>h) (by rfl) o (fun q u=>by obtain⟨V,S⟩:=u;go_simp) ?_
 simp only [Act.put];refine gU 4 (.slice (some ⟨p,s,none⟩) n y) rfl (by kernel_rfl) (by kernel_rfl) (by kernel_rfl) (by kernel_rfl) (by kernel_rfl) (fun _ _ _ h=>h) (by rfl) o (fun q u=>by obtain⟨V,S⟩:=u;go_simp) ?_
 simp only [Act.put];refine jy (i:=2) (by kernel_rfl) ?_
 refine wpOp_step rfl (fun K1 am=>?_)
 go_simp
 go_at_call 55
 refine (P.out _ (J.out.bl.drew)).mono ?_
 rintro e N ⟨d,cx,rfl,O,c⟩;have g:Below b.heap.size b N:=⟨c.os,c.tape,c.output,c.size,c.block⟩;have m:=hideS (J.out.step g);have Q:Hid (N.ownsRow b.heap.size 3 1 (.slice (some ⟨d,0,none⟩) n cx) n (G.map kV)):=O;have A:N.cell? ⟨w.heap.size,2,none⟩=some (.slice (some ⟨bd,r,none⟩) n x)/\N.cell? ⟨w.heap.size,3,none⟩=some (.slice (some ⟨p,s,none⟩) n y):=⟨m.out.k.t.2.2.1,m.out.k.t.2.2.2⟩;have X:Hid (b.heap.size<=N.heap.size):=g.size;clear O c g o T U E F;refine am _ _ ⟨fun _=>A,?_⟩
 refine gU 6 (.pointer (some ⟨w.heap.size,2,none⟩)) rfl (by kernel_rfl) (by kernel_rfl) (by kernel_rfl) (by kernel_rfl) (by kernel_rfl) (fun _ _ _ h=>h) (by rfl) A (fun q u=>by obtain⟨V,S⟩:=u;go_simp) ?_
 simp only [Act.put,List.setIfInBounds_toArray];refine jy (i:=5) (by kernel_rfl) ?_
 refine wpOp_step rfl (fun K2 Z=>?_)
 go_simp
 go_at_call 56
 refine (K.out _ m.out.bl).mono ?_
 rintro e w4 ⟨f,cy,rfl,H,B⟩;have l:=hideS (m.out.step B);have I:=hideS (cX Q.out B);have L:=hideS (bO H X.out);obtain⟨T,U,E,F⟩:=l.out.k.t;have z2:=l.out.k.frz 2;have z3:=l.out.k.frz 3;have D:=hideS (l.out.put (.slice (some ⟨d,0,none⟩) n cx) (.slice (some ⟨f,0,none⟩) n cy));have a:=hideS J.out.sz;have W:=hideS (ax (j:=3) (ax (j:=2) I.out (show w.heap.size<b.heap.size by have:=a.out;omega) (.slice (some ⟨d,0,none⟩) n cx)) (show w.heap.size<b.heap.size by have:=a.out;omega) (.slice (some ⟨f,0,none⟩) n cy))
 have Y:=hideS (ax (j:=3) (ax (j:=2) L.out (show w.heap.size<b.heap.size by have:=a.out;omega) (.slice (some ⟨d,0,none⟩) n cx)) (show w.heap.size<b.heap.size by have:=a.out;omega) (.slice (some ⟨f,0,none⟩) n cy))
 clear H B m Q I L P K;refine Z _ _ ⟨fun _=>⟨E,F⟩,?_⟩
 refine jy (i:=7) (by kernel_rfl) ?_
 refine wpOp_step rfl (fun K3 ak=>?_)
 go_simp;refine ak _ _ ⟨fun h=>absurd h (by decide),?_⟩
 refine jy (i:=8) (by kernel_rfl) ?_
 refine wpOp_step rfl (fun K4 ad=>?_)
 go_simp;refine ad _ _ ⟨fun h=>absurd h (by decide),?_⟩
 refine jy (i:=9) (by kernel_rfl) ?_
 refine wpOp_step rfl (fun K5 ab=>?_)
 go_simp;refine ab _ _ ⟨fun h=>absurd h (by decide),?_⟩
 refine Gc (by kernel_rfl) ?_
 clear T U E F z2 z3 A l;generalize (w4.setCell ⟨w.heap.size,2,none⟩ (.slice (some ⟨d,0,none⟩) n cx)).setCell ⟨w.heap.size,3,none⟩ (.slice (some ⟨f,0,none⟩) n cy)=w5 at *
 obtain⟨T,U,E,F⟩:=D.out.k.t;obtain⟨u1,u2,u3,u4,⟨e0,z0,y0⟩,⟨e1,z1,y1⟩,⟨e2,z2,y2⟩,⟨e3,z3,y3⟩,hZ,hB⟩:=bB (w.heap.size+1) base kind (.slice (some ⟨d,0,none⟩) n cx) (.slice (some ⟨f,0,none⟩) n cy) w5 D.out.z;have ac:=hideS (D.out.bl.trans (hB.mono (by omega)))
 have al:Hid (u4.ownsRow b.heap.size 3 1 (.slice (some ⟨d,0,none⟩) n cx) n (G.map kV)):=by
  show World.ownsRow _ _ _ _ _ _ _
  rw [<- e3,<- e2,<- e1,<- e0];exact ax (ax (ax (ax W.out (by have:=a.out;omega) _) (by have:=a.out;omega) _) (by have:=a.out;omega) _) (by have:=a.out;omega) _
 have ai:Hid (u4.ownsRow b.heap.size 27 1 (.slice (some ⟨f,0,none⟩) n cy) n (M.map fV)):=by
  show World.ownsRow _ _ _ _ _ _ _
  rw [<- e3,<- e2,<- e1,<- e0];exact ax (ax (ax (ax Y.out (by have:=a.out;omega) _) (by have:=a.out;omega) _) (by have:=a.out;omega) _) (by have:=a.out;omega) _
 obtain⟨s0,s1,s2,s3⟩:=hZ.t;clear hZ hB
 go_wp2_with fail
 refine bodyPost_ret (v:=.agg #[.int .i64 base,.int .i64 kind,.slice (some ⟨d,0,none⟩) n cx,.slice (some ⟨f,0,none⟩) n cy]) (by simp [results,Tryz.results39,go_sem,s0,s1,s2,s3]) rfl ?_
 exact⟨d,cx,f,cy,rfl,bO al.out (by have:=a.out;omega),bO ai.out (by have:=a.out;omega),ac.out⟩
theorem Dx {w:World} {B:Nat} {c:Cv} {b cx a cy k u:Nat} (h:OwnC w B c b cx a cy) (i:k<c.fs.length) (l:u<18446744073709551616) (o:b≠a):OwnC (w.setCell ⟨a,k,none⟩ (.float .f64 u)) B ⟨c.base,c.kind,c.ds,c.fs.set k u⟩ b cx a cy:=by
 have g:=World.ownsRow.stored h.y k (.float .f64 u);refine⟨ownsRow_setCell_other h.x (by intro e;simp [Value.ownBlock] at e;exact o e) _,?_,h.n,by show 0<(c.fs.set k u).length;rw [List.length_set];exact h.m,fun j d=>?_⟩
 ·show World.ownsRow _ _ _ _ (.slice (some ⟨a,0,none⟩) (c.fs.set k u).length cy) (c.fs.set k u).length ((c.fs.set k u).map fV)
  rw [List.length_set,List.map_set];exact g.1
 ·show (c.fs.set k u).getD j 0<_
  rw [getD_set i]
  split
  ·exact l
  ·exact h.f j (by have:(c.fs.set k u).length=c.fs.length:=List.length_set;rw [<- this];exact d)
theorem OwnC.ne {w:World} {B:Nat} {d:Cv} {b cx a cy:Nat} (h:OwnC w B d b cx a cy):b≠a:=vJ h.x h.y (by decide)
theorem OwnC.lo {w:World} {B:Nat} {d:Cv} {b cx a cy:Nat} (h:OwnC w B d b cx a cy):B<=b/\B<=a:=⟨(h.x.lt b rfl).1,(h.y.lt a rfl).1⟩
theorem OwnC.hi {w:World} {B:Nat} {d:Cv} {b cx a cy:Nat} (h:OwnC w B d b cx a cy):b<w.heap.size/\a<w.heap.size:=⟨(h.x.lt b rfl).2,(h.y.lt a rfl).2⟩
theorem OwnC.cell {w:World} {B:Nat} {d:Cv} {b cx a cy k:Nat} (h:OwnC w B d b cx a cy) (c:k<d.fs.length):w.cell? ⟨a,k,none⟩=some (.float .f64 (d.fs.getD k 0))/\w.frozen? ⟨a,k,none⟩=false:=by
 have:=h.src.y.cell k c;rw [Nat.zero_add] at this
 exact⟨this,World.ownsRow.frozenAt h.y k⟩
theorem OwnC.far {w:World} {B b j:Nat} {d:Cv} {c cx a cy:Nat} (h:OwnC w B d c cx a cy) (i:c≠b) (g:a≠b) (x:Value):OwnC (w.setCell ⟨b,j,none⟩ x) B d c cx a cy:=
 ⟨ownsRow_setCell_other h.x (by intro e;simp [Value.ownBlock] at e;exact i e) _,ownsRow_setCell_other h.y (by intro e;simp [Value.ownBlock] at e;exact g e) _,h.n,h.m,h.f⟩
theorem tU {g u1 u2 u3 i:World} {B b:Nat} {d:Cv} {f cx e cy:Nat} {j n l p:Value} (h:OwnC g B d f cx e cy) (c:f≠b) (a:e≠b) (m:g.setCell ⟨b,0,none⟩ j=u1) (k:u1.setCell ⟨b,1,none⟩ n=u2) (q:u2.setCell ⟨b,2,none⟩ l=u3) (o:u3.setCell ⟨b,3,none⟩ p=i):OwnC i B d f cx e cy:=by
 rw [<- o,<- q,<- k,<- m];exact (((h.far c a _).far c a _).far c a _).far c a _
theorem Gd (base kind E:Int) (i:Int) (h:Nat) (f g:Value) (w:World) (m:E≠0) (y:Hid (∀ j,Below w.heap.size w j->Calls Tryz.prog 37 #[.agg #[.int .i64 base,.int .i64 kind,f,g]] j fun e l=>e=.returned (.int .i64 E)/\Below j.heap.size j l)) :
  Calls Tryz.prog 18 #[.agg #[.int .i64 base,.int .i64 kind,f,g],.int .i64 i,.float .f64 h] w fun e l=>CvO w cv0 E e l:=by
 have T:(E !=0)=true:=bne_iff_ne.2 m;have B:=hideS m;clear m;have c:=hideS (iN w base kind (f) (g));obtain⟨p,b⟩:∃ p,(w.alloc (.cells #[.int .i64 base,.int .i64 kind,f,g] 26)).alloc au=p:=⟨_,rfl⟩;rw [b] at c
 unfold au at b
 obtain⟨x,o,s,u⟩:=c.out.k.t
 go_enter Tryz.func18,Tryz.ntmps18
 go_wp2_with fail
 clear b x o s u;refine (y.out _ c.out.bl).mono ?_
 rintro e G ⟨rfl,d⟩;have a:=hideS (c.out.step d);have I:=hideS c.out.sz;clear d y c;obtain⟨x,o,s,u⟩:=a.out.k.t;obtain⟨P,S,X,L,⟨N,H,J⟩,⟨M,O,R⟩,⟨U,Y,V⟩,⟨Q,W,K⟩,q,r⟩:=bB (w.heap.size+1) 0 0 (.slice none 0 0) (.slice none 0 0) G a.out.z;have n:=hideS (a.out.bl.trans (r.mono (by omega)))
 obtain⟨C,F,A,D⟩:=q.t;clear q r
 go_wp2_with fail
 refine bodyPost_ret (v:=.tuple #[.agg #[.int .i64 0,.int .i64 0,.slice none 0 0,.slice none 0 0],.int .i64 E]) (by simp [results,Tryz.results18,go_sem,C,F,A,D]) rfl ?_
 exact⟨fun _=>rfl,fun h=>absurd h B.out,n.out⟩
theorem Ge (base kind E:Int) (h:Nat) (f g:Value) (w:World) (l:E≠0) (x:Hid (∀ i,Below w.heap.size w i->Calls Tryz.prog 37 #[.agg #[.int .i64 base,.int .i64 kind,f,g]] i fun e j=>e=.returned (.int .i64 E)/\Below i.heap.size i j)) :
  Calls Tryz.prog 19 #[.agg #[.int .i64 base,.int .i64 kind,f,g],.float .f64 h] w fun e j=>CvO w cv0 E e j:=by
 have S:(E !=0)=true:=bne_iff_ne.2 l;have A:=hideS l;clear l;have c:=hideS (iN w base kind (f) (g));obtain⟨o,b⟩:∃ o,(w.alloc (.cells #[.int .i64 base,.int .i64 kind,f,g] 26)).alloc au=o:=⟨_,rfl⟩;rw [b] at c
 unfold au at b
 obtain⟨u,n,r,s⟩:=c.out.k.t
 go_enter Tryz.func19,Tryz.ntmps19
 go_wp2_with fail
 clear b u n r s;refine (x.out _ c.out.bl).mono ?_
 rintro e F ⟨rfl,d⟩;have a:=hideS (c.out.step d);have H:=hideS c.out.sz;clear d x c;obtain⟨u,n,r,s⟩:=a.out.k.t;obtain⟨O,R,W,K,⟨M,G,I⟩,⟨L,N,Q⟩,⟨T,X,U⟩,⟨P,V,J⟩,p,q⟩:=bB (w.heap.size+1) 0 0 (.slice none 0 0) (.slice none 0 0) F a.out.z;have m:=hideS (a.out.bl.trans (q.mono (by omega)))
 obtain⟨B,D,y,C⟩:=p.t;clear p q
 go_wp2_with fail
 refine bodyPost_ret (v:=.tuple #[.agg #[.int .i64 0,.int .i64 0,.slice none 0 0,.slice none 0 0],.int .i64 E]) (by simp [results,Tryz.results19,go_sem,B,D,y,C]) rfl ?_
 exact⟨fun _=>rfl,fun h=>absurd h A.out,m.out⟩
theorem Gf (base kind i:Int) (h n m bd g l p o j:Nat) (w:World) (hi:¬ (0<=i/\i<(n:Int))) (I:Hid (∀ q,Below w.heap.size w q->Calls Tryz.prog 37 #[.agg #[.int .i64 base,.int .i64 kind,.slice (some ⟨bd,g,none⟩) n l,.slice (some ⟨p,o,none⟩) m j]] q fun e r=>e=.returned (.int .i64 0)/\Below q.heap.size q r)) :
  Calls Tryz.prog 18 #[.agg #[.int .i64 base,.int .i64 kind,.slice (some ⟨bd,g,none⟩) n l,.slice (some ⟨p,o,none⟩) m j],.int .i64 i,.float .f64 h] w fun e r=>CvO w cv0 1 e r:=by
 have x:Hid ((1:Int)≠0):=by show _≠_;decide
 have c:=hideS (iN w base kind (.slice (some ⟨bd,g,none⟩) n l) (.slice (some ⟨p,o,none⟩) m j));obtain⟨y,b⟩:∃ y,(w.alloc (.cells #[.int .i64 base,.int .i64 kind,.slice (some ⟨bd,g,none⟩) n l,.slice (some ⟨p,o,none⟩) m j] 26)).alloc au=y:=⟨_,rfl⟩;rw [b] at c
 unfold au at b
 obtain⟨H,s,D,F⟩:=c.out.k.t
 go_enter Tryz.func18,Tryz.ntmps18
 go_wp2_with fail
 clear b H s D F;refine (I.out _ c.out.bl).mono ?_
 rintro e J ⟨rfl,d⟩;have a:=hideS (c.out.step d);have L:=hideS c.out.sz;clear d I c;obtain⟨H,s,D,F⟩:=a.out.k.t;obtain⟨T,W,u3,O,⟨R,K,M⟩,⟨P,S,V⟩,⟨Y,z2,Z⟩,⟨U,z3,Q⟩,A,B⟩:=bB (w.heap.size+1) 0 0 (.slice none 0 0) (.slice none 0 0) J a.out.z;have f:=hideS (a.out.bl.trans (B.mono (by omega)))
 obtain⟨C,G,u,E⟩:=A.t;clear A B
 by_cases X:i<0
 ·clear hi
  go_wp2_with fail
  refine bodyPost_ret (v:=.tuple #[.agg #[.int .i64 0,.int .i64 0,.slice none 0 0,.slice none 0 0],.int .i64 1]) (by simp [results,Tryz.results18,go_sem,C,G,u,E]) rfl ?_
  exact⟨fun _=>rfl,fun h=>absurd h x.out,f.out⟩
 ·have N:(n:Int)<=i:=by omega
  clear hi
  go_wp2_with fail
  refine bodyPost_ret (v:=.tuple #[.agg #[.int .i64 0,.int .i64 0,.slice none 0 0,.slice none 0 0],.int .i64 1]) (by simp [results,Tryz.results18,go_sem,C,G,u,E]) rfl ?_
  exact⟨fun _=>rfl,fun h=>absurd h x.out,f.out⟩
theorem Gg (base kind E:Int) (k h U n m bd f o r q i:Nat) (w:World) (hk:k<n) (A:E≠0) (H:Hid (∀ a,Below w.heap.size w a->Calls Tryz.prog 37 #[.agg #[.int .i64 base,.int .i64 kind,.slice (some ⟨bd,f,none⟩) n o,.slice (some ⟨r,q,none⟩) m i]] a fun e l=>e=.returned (.int .i64 0)/\Below a.heap.size a l)) (C:Hid (∀ a,Below w.heap.size w a->Calls Tryz.prog 38 #[.agg #[.int .i64 base,.int .i64 kind,.slice (some ⟨bd,f,none⟩) n o,.slice (some ⟨r,q,none⟩) m i],.int .i64 (k:Nat),.float .f64 h] a fun e l=>e=.returned (.tuple #[.float .f64 U,.int .i64 E])/\Below a.heap.size a l)) :
  Calls Tryz.prog 18 #[.agg #[.int .i64 base,.int .i64 kind,.slice (some ⟨bd,f,none⟩) n o,.slice (some ⟨r,q,none⟩) m i],.int .i64 (k:Nat),.float .f64 h] w fun e l=>CvO w cv0 E e l:=by
 have dE:(E !=0)=true:=bne_iff_ne.2 A;have I:=hideS A;clear A;have d:=hideS (iN w base kind (.slice (some ⟨bd,f,none⟩) n o) (.slice (some ⟨r,q,none⟩) m i));obtain⟨D,c⟩:∃ D,(w.alloc (.cells #[.int .i64 base,.int .i64 kind,.slice (some ⟨bd,f,none⟩) n o,.slice (some ⟨r,q,none⟩) m i] 26)).alloc au=D:=⟨_,rfl⟩;rw [c] at d
 unfold au at c
 obtain⟨y,s,u,x⟩:=d.out.k.t
 go_enter Tryz.func18,Tryz.ntmps18
 go_wp2_with fail
 clear c y s u x;refine (H.out _ d.out.bl).mono ?_
 rintro e w3 ⟨rfl,j⟩;have b:=hideS (d.out.step j);have P:=hideS d.out.sz;clear j H d;obtain⟨y,s,u,x⟩:=b.out.k.t;have g1:¬ (k:Int)<0:=by omega
 have g2:¬ (n:Int)<=(k:Int):=by omega
 go_wp2_with fail
 refine (C.out _ b.out.bl).mono ?_
 rintro e L ⟨rfl,g⟩;have p:=hideS (b.out.step g);clear g C y s u x;obtain⟨X,u2,u3,R,⟨V,O,Q⟩,⟨S,W,Z⟩,⟨e2,z2,y2⟩,⟨Y,z3,T⟩,F,G⟩:=bB (w.heap.size+1) 0 0 (.slice none 0 0) (.slice none 0 0) L p.out.z;have B:=hideS (p.out.bl.trans (G.mono (by omega)))
 obtain⟨K,N,J,M⟩:=F.t;clear F G
 go_wp2_with fail
 refine bodyPost_ret (v:=.tuple #[.agg #[.int .i64 0,.int .i64 0,.slice none 0 0,.slice none 0 0],.int .i64 E]) (by simp [results,Tryz.results18,go_sem,K,N,J,M]) rfl ?_
 exact⟨fun _=>rfl,fun h=>absurd h I.out,B.out⟩
theorem KY (c:Cv) (base kind:Int) (k h U n bd A o r B s:Nat) (w:World) (hk:k<n) (F:c.base=base) (Q:c.kind=kind) (J:c.ds.length=n) (P:c.fs.length=n) (hU:U<18446744073709551616) (HC:Hid (∀ b,Below w.heap.size w b->Calls Tryz.prog 37 #[.agg #[.int .i64 base,.int .i64 kind,.slice (some ⟨bd,A,none⟩) n o,.slice (some ⟨r,B,none⟩) n s]] b fun e j=>e=.returned (.int .i64 0)/\Below b.heap.size b j)) (HF:Hid (∀ b,Below w.heap.size w b->Calls Tryz.prog 38 #[.agg #[.int .i64 base,.int .i64 kind,.slice (some ⟨bd,A,none⟩) n o,.slice (some ⟨r,B,none⟩) n s],.int .i64 (k:Nat),.float .f64 h] b fun e j=>e=.returned (.tuple #[.float .f64 U,.int .i64 0])/\Below b.heap.size b j)) (HO:Hid (∀ b,Below w.heap.size w b->Calls Tryz.prog 39 #[.agg #[.int .i64 base,.int .i64 kind,.slice (some ⟨bd,A,none⟩) n o,.slice (some ⟨r,B,none⟩) n s]] b fun e j=>(∃ g cx a cy,e=.returned (.agg #[.int .i64 base,.int .i64 kind,.slice (some ⟨g,0,none⟩) n cx,.slice (some ⟨a,0,none⟩) n cy])/\OwnC j b.heap.size c g cx a cy)/\Below b.heap.size b j)) :
  Calls Tryz.prog 18 #[.agg #[.int .i64 base,.int .i64 kind,.slice (some ⟨bd,A,none⟩) n o,.slice (some ⟨r,B,none⟩) n s],.int .i64 (k:Nat),.float .f64 h] w fun e j=>CvO w ⟨c.base,c.kind,c.ds,c.fs.set k U⟩ 0 e j:=by
 have ab:=hideS F;have ai:=hideS Q;have Z:=hideS J;have y:=hideS P;have HU:=hideS hU;clear F Q J P hU;have C:=hideS (iN w base kind (.slice (some ⟨bd,A,none⟩) n o) (.slice (some ⟨r,B,none⟩) n s));obtain⟨w2,x⟩:∃ w2,(w.alloc (.cells #[.int .i64 base,.int .i64 kind,.slice (some ⟨bd,A,none⟩) n o,.slice (some ⟨r,B,none⟩) n s] 26)).alloc au=w2:=⟨_,rfl⟩;rw [x] at C
 unfold au at x
 obtain⟨S,V,D,R⟩:=C.out.k.t
 go_enter Tryz.func18,Tryz.ntmps18
 go_wp2_with fail
 clear x S V D R;refine (HC.out _ C.out.bl).mono ?_
 rintro e w3 ⟨rfl,O⟩;have i:=hideS (C.out.step O);have HS:=hideS C.out.sz;clear O HC C;obtain⟨S,V,D,R⟩:=i.out.k.t;have g1:¬ (k:Int)<0:=by omega
 have g2:¬ (n:Int)<=(k:Int):=by omega
 go_wp2_with fail
 refine (HF.out _ i.out.bl).mono ?_
 rintro e w4 ⟨rfl,I⟩;have d:=hideS (i.out.step I);clear I HF S V D R;obtain⟨S,V,D,R⟩:=d.out.k.t
 go_wp2_with fail
 refine (HO.out _ d.out.bl).mono ?_
 rintro e l ⟨⟨g,cx,a,cy,rfl,K⟩,N⟩;have X:=hideS (d.out.step N);have HL:=hideS K.lo;have HH:=hideS K.hi;have ac:=hideS K.ne;have f:=hideS d.out.sz;obtain⟨u1,u2,u3,G,⟨e0,z0,y0⟩,⟨e1,z1,y1⟩,⟨e2,z2,y2⟩,⟨e3,z3,y3⟩,hZ,hB⟩:=bB l.heap.size base kind (.slice (some ⟨g,0,none⟩) n cx) (.slice (some ⟨a,0,none⟩) n cy) (l.alloc au) (heap_alloc_new _ _);have u:Below l.heap.size l G:=((Below.refl _ l).alloc (Nat.le_refl _) au).trans hB;have q:=hideS (K.below u);have H:=hideS (X.out.step u);obtain⟨q1,q2⟩:=q.out.cell (k:=k) (by rw [y.out];exact hk)
 have T:=hideS (Dx q.out (by rw [y.out];exact hk) HU.out ac.out)
 have m:Hid (CpB w base kind (.slice (some ⟨bd,A,none⟩) n o) (.slice (some ⟨r,B,none⟩) n s) (G.setCell ⟨a,k,none⟩ (.float .f64 U))):=H.out.stay ((Below.refl a G).setCell (p:=⟨a,k,none⟩) (Nat.le_refl _) _) (by have:=HL.out.2;have:=f.out;omega)
 have E:Hid (BxK (G.setCell ⟨a,k,none⟩ (.float .f64 U)) l.heap.size base kind (.slice (some ⟨g,0,none⟩) n cx) (.slice (some ⟨a,0,none⟩) n cy)):=⟨by
  rw [Below.heap_setCell _ ⟨a,k,none⟩ _ _ (by show l.heap.size≠a;have:=HH.out.2;omega)];exact hZ.blk⟩
 obtain⟨w6,M⟩:∃ w6,l.alloc au=w6:=⟨_,rfl⟩;rw [M] at e0 z0 y0
 unfold au at M
 obtain⟨s0,s1,s2,s3⟩:=hZ.t;obtain⟨w7,ak⟩:∃ w7,G.setCell ⟨a,k,none⟩ (.float .f64 U)=w7:=⟨_,rfl⟩;rw [ak] at T m E
 obtain⟨x0,x1,x2,x3⟩:=E.out.t;obtain⟨v1,v2,v3,v4,⟨f0,a0,b0⟩,⟨f1,a1,b1⟩,⟨f2,a2,al⟩,⟨f3,a3,b3⟩,W,L⟩:=bB (w.heap.size+1) base kind (.slice (some ⟨g,0,none⟩) n cx) (.slice (some ⟨a,0,none⟩) n cy) w7 m.out.z;have Y:=hideS (tU T.out (by have:=HL.out.1;have:=f.out;omega) (by have:=HL.out.2;have:=f.out;omega) f0 f1 f2 f3)
 have ad:=hideS (m.out.bl.trans (L.mono (by omega)))
 obtain⟨r0,r1,r2,r3⟩:=W.t;have am:=cg;have g3:(0:Int)<=(k:Int):=by omega
 have g4:(k:Int)<(n:Int):=by omega
 clear K N HO S V D R hZ hB u W L X H d i q
 go_wp2_with fail
 refine bodyPost_ret (v:=.tuple #[.agg #[.int .i64 base,.int .i64 kind,.slice (some ⟨g,0,none⟩) n cx,.slice (some ⟨a,0,none⟩) n cy],.int .i64 0]) (by simp [results,Tryz.results18,go_sem,r0,r1,r2,r3]) rfl ?_
 refine⟨fun h=>absurd rfl h,fun _=>⟨g,cx,a,cy,?_,Y.out.mono (by have:=f.out;omega)⟩,ad.out⟩
 show Ending.returned _=Ending.returned (.tuple #[.agg #[.int .i64 c.base,.int .i64 c.kind,.slice (some ⟨g,0,none⟩) c.ds.length cx,.slice (some ⟨a,0,none⟩) (c.fs.set k U).length cy],.int .i64 0])
 rw [List.length_set,ab.out,ai.out,Z.out,y.out]
structure PaI (w:World) (base kind:Int) (vd vf:Value) (B D:Nat) (n gx cx gy cy:Nat) (c:Cv) (h k:Nat) (wr:World):Prop where
 cp:CpB w base kind vd vf wr
 bx:BxK wr B base kind (.slice (some ⟨gx,0,none⟩) n cx) (.slice (some ⟨gy,0,none⟩) n cy)
 own:OwnC wr D ⟨c.base,c.kind,c.ds,c.parL h k⟩ gx cx gy cy
theorem PaI.step {w wr e:World} {base kind:Int} {b d:Value} {B D n g cx f cy:Nat} {c:Cv} {h k:Nat} (H:PaI w base kind b d B D n g cx f cy c h k wr) (a:Below wr.heap.size wr e):PaI w base kind b d B D n g cx f cy c h k e:=⟨H.cp.step a,H.bx.step a,H.own.below a⟩
theorem PaI.put {w wr:World} {base kind:Int} {b d:Value} {B D n f cx a cy:Nat} {c:Cv} {h k:Nat} (H:PaI w base kind b d B D n f cx a cy c h k wr) (j:k<c.fs.length) (g:c.bm k h<18446744073709551616) (l:w.heap.size+2<=D) (i:a≠B):PaI w base kind b d B D n f cx a cy c h (k+1) (wr.setCell ⟨a,k,none⟩ (.float .f64 (c.bm k h))):=by
 refine⟨H.cp.stay ((Below.refl a wr).setCell (p:=⟨a,k,none⟩) (Nat.le_refl _) _) (by have:=H.own.lo.2;omega),⟨?_⟩,Dx H.own (by show k<(c.parL h k).length;rw [gT];exact j) g H.own.ne⟩
 rw [Below.heap_setCell _ ⟨a,k,none⟩ _ _ (by show B≠a;exact fun e=>i e.symm)];exact H.bx.blk
theorem Gh (c:Cv) (base kind:Int) (h n bd x r s y u:Nat) (w:World) (hn:n<=255) (S:c.base=base) (ab:c.kind=kind) (T:c.ds.length=n) (Z:c.fs.length=n) (hU:∀ k<n,bmE c k h=0->bmV c k h=c.bm k h/\c.bm k h<18446744073709551616) (ad:∀ k<n,bmE c k h≠0->bmE c k h=91)
  (HC:Hid (∀ a,Below w.heap.size w a->Calls Tryz.prog 37 #[.agg #[.int .i64 base,.int .i64 kind,.slice (some ⟨bd,x,none⟩) n r,.slice (some ⟨s,y,none⟩) n u]] a fun e q=>e=.returned (.int .i64 0)/\Below a.heap.size a q))
  (HF:Hid (∀ k<n,∀ a,Below w.heap.size w a->Calls Tryz.prog 38 #[.agg #[.int .i64 base,.int .i64 kind,.slice (some ⟨bd,x,none⟩) n r,.slice (some ⟨s,y,none⟩) n u],.int .i64 (k:Nat),.float .f64 h] a fun e q=>e=.returned (.tuple #[.float .f64 (bmV c k h),.int .i64 (bmE c k h)])/\Below a.heap.size a q))
  (HO:Hid (∀ a,Below w.heap.size w a->Calls Tryz.prog 39 #[.agg #[.int .i64 base,.int .i64 kind,.slice (some ⟨bd,x,none⟩) n r,.slice (some ⟨s,y,none⟩) n u]] a fun e q=>(∃ l cx g cy,e=.returned (.agg #[.int .i64 base,.int .i64 kind,.slice (some ⟨l,0,none⟩) n cx,.slice (some ⟨g,0,none⟩) n cy])/\OwnC q a.heap.size c l cx g cy)/\Below a.heap.size a q)) :
  Calls Tryz.prog 19 #[.agg #[.int .i64 base,.int .i64 kind,.slice (some ⟨bd,x,none⟩) n r,.slice (some ⟨s,y,none⟩) n u],.float .f64 h] w fun e q=>((∃ k<n,bmE c k h≠0)/\CvO w cv0 91 e q)\/((∀ k<n,bmE c k h=0)/\CvO w (c.para h) 0 e q):=by
 have am:=hideS S;have bb:=hideS ab;have N:=hideS T;have L:=hideS Z;have HU:=hideS hU;have as:=hideS ad;clear S ab T Z hU ad;have R:=hideS (iN w base kind (.slice (some ⟨bd,x,none⟩) n r) (.slice (some ⟨s,y,none⟩) n u));obtain⟨w2,K⟩:∃ w2,(w.alloc (.cells #[.int .i64 base,.int .i64 kind,.slice (some ⟨bd,x,none⟩) n r,.slice (some ⟨s,y,none⟩) n u] 26)).alloc au=w2:=⟨_,rfl⟩;rw [K] at R
 unfold au at K
 obtain⟨J,M,C,I⟩:=R.out.k.t
 go_enter Tryz.func19,Tryz.ntmps19
 go_wp2_with fail
 clear K J M C I;refine (HC.out _ R.out.bl).mono ?_
 rintro e w3 ⟨rfl,Y⟩;have m:=hideS (R.out.step Y);have HS:=hideS m.out.sz;clear Y HC R;obtain⟨J,M,C,I⟩:=m.out.k.t
 go_wp2_with fail
 refine (HO.out _ m.out.bl).mono ?_
 rintro e p ⟨⟨l,cx,g,cy,rfl,F⟩,X⟩;have ak:=hideS (m.out.step X);have HL:=hideS F.lo;have HH:=hideS F.hi;obtain⟨u1,u2,u3,u4,⟨e0,z0,y0⟩,⟨e1,z1,y1⟩,⟨e2,z2,y2⟩,⟨e3,z3,y3⟩,O,hB⟩:=bB p.heap.size base kind (.slice (some ⟨l,0,none⟩) n cx) (.slice (some ⟨g,0,none⟩) n cy) (p.alloc au) (heap_alloc_new _ _);have H:Below p.heap.size p u4:=((Below.refl _ p).alloc (Nat.le_refl _) au).trans hB;have f:Hid (PaI w base kind (.slice (some ⟨bd,x,none⟩) n r) (.slice (some ⟨s,y,none⟩) n u) p.heap.size w3.heap.size n l cx g cy c h 0 u4):=⟨ak.out.step H,O,F.below H⟩;have ba:Hid (l≠p.heap.size/\g≠p.heap.size):=⟨Nat.ne_of_lt HH.out.1,Nat.ne_of_lt HH.out.2⟩;obtain⟨w6,G⟩:∃ w6,p.alloc au=w6:=⟨_,rfl⟩;rw [G] at e0 z0 y0
 unfold au at G
 clear J M C I;obtain⟨J,M,C,I⟩:=f.out.cp.k.t;clear F X HO O hB H ak m HH
 go_wp2_with fail
 clear G e0 z0 y0 e1 z1 y1 e2 z2 y2 e3 z3 y3 J M C I;generalize p.heap.size=B at *
 generalize w3.heap.size=D at *
 go_loopw [8,9,10,22] (fun _ _ _ i wr=>∃ k:Nat,k<=n/\i=.int .i64 k/\Hid (∀ j<k,bmE c j h=0)/\Hid (PaI w base kind (.slice (some ⟨bd,x,none⟩) n r) (.slice (some ⟨s,y,none⟩) n u) B D n l cx g cy c h k wr)) (fun _ _ _ i _=>n - (intOf i).toNat)
 case atStart=>exact⟨0,Nat.zero_le _,rfl,fun j hj=>by omega,f⟩
 case round=>
  clear f;obtain⟨k,hk,rfl,P,f⟩:=hrel
  by_cases b:k<n
  ·obtain⟨J,M,C,I⟩:=f.out.cp.k.t;have Q:=hideS (HF.out k b)
   go_wp2_with fail
   refine (Q.out _ f.out.cp.bl).mono ?_
   rintro e w7 ⟨rfl,V⟩;have o:=hideS (f.out.step V);clear V Q f J M C I
   by_cases A:bmE c k h=0
   ·obtain⟨hV,hU⟩:=HU.out k b A;have HP:=hideS (o.out.put (by rw [L.out];exact b) hU HS.out ba.out.2)
    have bc:Hid (∀ j<k+1,bmE c j h=0):=fun j hj=>by
     rcases Nat.lt_or_eq_of_le (Nat.le_of_lt_succ hj) with d | d
     ·exact P.out j d
     ·rw [d];exact A
    obtain⟨q1,q2⟩:=o.out.own.cell (k:=k) (by show k<(c.parL h k).length;rw [gT,L.out];exact b)
    obtain⟨s0,s1,s2,s3⟩:=o.out.bx.t;have bi:=cg;have g3:(0:Int)<=(k:Int):=by omega
    have g4:(k:Int)<(n:Int):=by omega
    rw [A,hV];clear A hV hU;generalize c.bm k h=U at *
    go_wp2_with fail
    go_roundw
    case rel=>exact⟨k+1,by omega,by simp,bc,HP⟩
    case measure=>simp [intOf];omega
   ·have dE:(bmE c k h !=0)=true:=bne_iff_ne.2 A;obtain⟨u1,u2,u3,u4,⟨e0,z0,y0⟩,⟨e1,z1,y1⟩,⟨e2,z2,y2⟩,⟨e3,z3,y3⟩,O,hB⟩:=bB (w.heap.size+1) 0 0 (.slice none 0 0) (.slice none 0 0) w7 o.out.cp.z;have E:=hideS (o.out.cp.bl.trans (hB.mono (by omega)))
    obtain⟨s0,s1,s2,s3⟩:=O.t;have HE:Hid (∃ k<n,bmE c k h≠0):=⟨k,b,A⟩;have ac:=as.out k b A;rw [ac] at dE ⊢
    clear O hB A ac
    go_wp2_with fail
    refine bodyPost_ret (v:=.tuple #[.agg #[.int .i64 0,.int .i64 0,.slice none 0 0,.slice none 0 0],.int .i64 91]) (by simp [results,Tryz.results19,go_sem,s0,s1,s2,s3]) rfl ?_
    exact Or.inl ⟨HE.out,fun _=>rfl,fun h=>absurd h (by decide),E.out⟩
  ·obtain rfl:k=n:=by omega
   obtain⟨s0,s1,s2,s3⟩:=f.out.bx.t;obtain⟨v1,v2,v3,v4,⟨f0,a0,b0⟩,⟨f1,a1,b1⟩,⟨f2,a2,bh⟩,⟨f3,a3,b3⟩,ai,W⟩:=bB (w.heap.size+1) base kind (.slice (some ⟨l,0,none⟩) k cx) (.slice (some ⟨g,0,none⟩) k cy) wr f.out.cp.z;have al:=hideS (tU f.out.own (by have:=HL.out.1;have:=HS.out;omega) (by have:=HL.out.2;have:=HS.out;omega) f0 f1 f2 f3)
   have E:=hideS (f.out.cp.bl.trans (W.mono (by omega)))
   obtain⟨r0,r1,r2,r3⟩:=ai.t;clear ai W
   go_wp2_with fail
   refine bodyPost_ret (v:=.tuple #[.agg #[.int .i64 base,.int .i64 kind,.slice (some ⟨l,0,none⟩) k cx,.slice (some ⟨g,0,none⟩) k cy],.int .i64 0]) (by simp [results,Tryz.results19,go_sem,r0,r1,r2,r3]) rfl ?_
   have F:=al.out;rw [<- N.out] at F
   refine Or.inr ⟨P.out,fun h=>absurd rfl h,fun _=>⟨l,cx,g,cy,?_,F.mono (by have:=HS.out;omega)⟩,E.out⟩
   show Ending.returned _=Ending.returned (.tuple #[.agg #[.int .i64 c.base,.int .i64 c.kind,.slice (some ⟨l,0,none⟩) c.ds.length cx,.slice (some ⟨g,0,none⟩) (c.parL h c.ds.length).length cy],.int .i64 0])
   rw [gT,am.out,bb.out,N.out,L.out]
theorem KZ {c:Cv} {k h:Nat} (f:c.Ok) (d:c.Fit) (e:k<c.ds.length) (b:bmE c k h=0):bmB c k h=true/\bmV c k h=c.bm k h/\c.bm k h<18446744073709551616:=by
 have a:bmB c k h=true:=by
  cases a:bmB c k h with
  | true=>rfl
  | false=>unfold bmE at b;rw [a] at b;exact absurd b (by decide)
 refine⟨a,by unfold bmV;rw [if_pos a],(zF f d e (cC (zG a).2)).2.2.1⟩
theorem bmE_cases (c:Cv) (k h:Nat):(bmB c k h=true/\bmE c k h=0)\/(bmB c k h=false/\bmE c k h=91):=by
 unfold bmE;cases bmB c k h
 ·exact Or.inr ⟨rfl,rfl⟩
 ·exact Or.inl ⟨rfl,rfl⟩
theorem rz (c:Cv) (bd d o i h n:Nat) (w:World) (k:c.Ok) (p:TFl w (some ⟨bd,d,none⟩) (some ⟨i,h,none⟩) bd d i h c.ds c.fs):∀ a,Below w.heap.size w a->Calls Tryz.prog 39 #[.agg #[.int .i64 c.base,.int .i64 c.kind,.slice (some ⟨bd,d,none⟩) c.ds.length o,.slice (some ⟨i,h,none⟩) c.ds.length n]] a fun e l=>(∃ j cx g cy,e=.returned (.agg #[.int .i64 c.base,.int .i64 c.kind,.slice (some ⟨j,0,none⟩) c.ds.length cx,.slice (some ⟨g,0,none⟩) c.ds.length cy])/\OwnC l a.heap.size c j cx g cy)/\Below a.heap.size a l:=fun a u=>by
 have m:=k.len;have r:=k.lo;have b:=p.below u;refine (Cd c.base c.kind bd d o i h n c.ds.length c.ds c.fs a b.x (by rw [<- m];exact b.y) rfl m k.lo k.hi).mono ?_
 rintro e l ⟨j,cx,g,cy,rfl,t,q,s⟩;exact⟨⟨j,cx,g,cy,rfl,t,by rw [m];exact q,by omega,by omega,p.f⟩,s⟩
theorem tV (c d:Cv) (i:Int) (h:Nat) (E:Int) (B A:Option Addr) (bd g l n m j:Nat) (w:World) (I:BmpR c i h d E) (D:h<18446744073709551616) (a:TFl w B A bd g n m c.ds c.fs) :
  Calls Tryz.prog 18 #[.agg #[.int .i64 c.base,.int .i64 c.kind,.slice B c.ds.length l,.slice A c.fs.length j],.int .i64 i,.float .f64 h] w fun e G=>CvO w d E e G:=by
 have u:∀ E,c.Chk E->∀ o,Below w.heap.size w o->_:=fun E z o (b:Below w.heap.size w o)=>dA c.base c.kind B A bd g l n m j c.ds c.fs o (a.below b) (E:=E) z
 cases I with
 | chk E H z=>exact Gd c.base c.kind E i h _ _ w z (u E H)
 | arg ok hi=>
  have r:=ok.len;have F:=ok.lo;have t:=a.x.at_ (by omega)
  have s:=a.y.at_ (by omega)
  subst t s;exact Gf c.base c.kind i h c.ds.length c.fs.length bd g l n m j w hi (u 0 (.ok ok))
 | val ok k p e b=>
  have r:=ok.len;have t:=a.x.at_ (by omega)
  have s:=a.y.at_ (by omega)
  subst t s e;have v:bmE c k h=91:=by unfold bmE;rw [b];rfl
  refine Gg c.base c.kind 91 k h (bmV c k h) c.ds.length c.fs.length bd g l n m j w p (by decide) (u 0 (.ok ok)) (fun o b=>?_)
  have:=kS c k h _ _ bd g l n m j o ok p D (a.below b);rw [v] at this;exact this
 | ok ok k p e b=>
  have r:=ok.len;have t:=a.x.at_ (by omega)
  have s:=a.y.at_ (by omega)
  subst t s e;have C:bmE c k h=0:=by unfold bmE;rw [b];rfl
  obtain⟨_,K,J⟩:=KZ ok a.f p C;have q:=u 0 (.ok ok);rw [r] at q ⊢
  refine KY c c.base c.kind k h (c.bm k h) c.ds.length bd g l n m j w p rfl rfl rfl r J q (fun o b=>?_) (rz c bd g l n m j w ok a)
  have:=kS c k h _ _ bd g l n m j o ok p D (a.below b);rw [C,K,r] at this;exact this
theorem tW (c d:Cv) (h:Nat) (E:Int) (z v:Option Addr) (bd q n u t l:Nat) (w:World) (I:ParR c h d E) (G:h<18446744073709551616) (o:TFl w z v bd q u t c.ds c.fs) :
  Calls Tryz.prog 19 #[.agg #[.int .i64 c.base,.int .i64 c.kind,.slice z c.ds.length n,.slice v c.fs.length l],.float .f64 h] w fun e m=>CvO w d E e m:=by
 have C:∀ E,c.Chk E->∀ p,Below w.heap.size w p->_:=fun E i p (j:Below w.heap.size w p)=>dA c.base c.kind z v bd q n u t l c.ds c.fs p (o.below j) (E:=E) i
 have r:∀ ok:c.Ok,Calls Tryz.prog 19 #[.agg #[.int .i64 c.base,.int .i64 c.kind,.slice z c.ds.length n,.slice v c.fs.length l],.float .f64 h] w fun e m=>((∃ k<c.ds.length,bmE c k h≠0)/\CvO w cv0 91 e m)\/((∀ k<c.ds.length,bmE c k h=0)/\CvO w (c.para h) 0 e m):=fun ok=>by
  have B:=ok.len;have D:=ok.lo;have J:=o.x.at_ (by omega)
  have H:=o.y.at_ (by omega)
  subst J H;have s:=C 0 (.ok ok);rw [B] at s ⊢
  refine Gh c c.base c.kind h c.ds.length bd q n u t l w ok.hi rfl rfl rfl B (fun k g i=>(KZ ok o.f g i).2) (fun k g i=>?_) s (fun k g p j=>?_) (rz c bd q n u t l w ok o)
  ·rcases bmE_cases c k h with a | a
   ·exact absurd a.2 i
   ·exact a.2
  ·have:=kS c k h _ _ bd q n u t l p ok g G (o.below j);rw [B] at this;exact this
 cases I with
 | chk E F i=>exact Ge c.base c.kind E h _ _ w i (C E F)
 | val ok k g j=>
  refine (r ok).mono fun e m b=>?_
  rcases b with b | b
  ·exact b.2
  ·have:=b.1 k g;unfold bmE at this
   rw [j] at this
   exact absurd this (by decide)
 | ok ok j=>
  refine (r ok).mono fun e m b=>?_
  rcases b with⟨⟨k,g,A⟩,_⟩| b
  ·exfalso
   unfold bmE at A
   rw [j k g] at A
   exact A rfl
  ·exact b.2
structure YrD (P:Int) (T:Nat) (np nq:Bool) (X Y:Nat):Prop where
 w1:∀ wx,Calls Tryz.prog 62 #[.int .i64 P] wx fun e w'=>∃ v,e=.returned (.agg #[.bool np,v,.int .i64 0])/\DN w' v X/\Below wx.heap.size wx w'
 w2:∀ wx,Calls Tryz.prog 62 #[.int .i64 365] wx fun e w'=>∃ v,e=.returned (.agg #[.bool nq,v,.int .i64 0])/\DN w' v Y/\Below wx.heap.size wx w'
 w3:∀ vx vy wx,DN wx vx X->DN wx vy Y->Calls Tryz.prog 61 #[.agg #[.bool np,vx,.int .i64 0],.agg #[.bool nq,vy,.int .i64 0]] wx fun e w'=>e=.returned (.int .u64 (T:Int))/\Below wx.heap.size wx w'
theorem PM {base d:Int} (j:base<d) (i:d - base<=109572):∃ h e X Y,YrD (d - base) (rkT base d) h e X Y:=
 ⟨_,_,_,_,fun a=>jI _ a (by omega) (by omega),fun a=>jI 365 a (by omega) (by omega),fun f c a g b=>by
  have:=FO (d - base) 365 (decide ((365:Int)<0)) f c a g b (by omega) (by omega) (by omega) (by omega)
  rw [PH (by omega) (by omega)] at this
  exact this⟩
structure FcD (T h f m fm x u:Nat):Prop where
 m1:∀ wx,Calls Tryz.prog 63 #[.int .u64 (h:Int),.int .u64 (T:Int)] wx fun e w'=>e=.returned (.int .u64 (m:Int))/\Below wx.heap.size wx w'
 m2:∀ wx,Calls Tryz.prog 34 #[.int .u64 (m:Int)] wx fun e w'=>e=.returned (.int .u64 (fm:Int))/\wx=w'
 m3:∀ wx,Calls Tryz.prog 64 #[.int .u64 (fm:Int)] wx fun e w'=>e=.returned (.int .u64 (x:Int))/\Below wx.heap.size wx w'
 m4:∀ wx,Calls Tryz.prog 63 #[.int .u64 (f:Int),.int .u64 (x:Int)] wx fun e w'=>e=.returned (.int .u64 (u:Int))/\Below wx.heap.size wx w'
theorem PN {c:Cv} {k h:Nat} (e:c.Ok) (g:c.Fit) (f:k<c.ds.length) (s:h<18446744073709551616) (hn:af h):∃ m o x,FcD (rkT c.base (c.ds.getD k 0)) h (c.fs.getD k 0) m o x (c.bm k h):=by
 obtain⟨r,u⟩:=e.day f;have v:=e.b0;obtain⟨q,i⟩:=oP r (by omega)
 obtain⟨m,n,b,t,l⟩:=BW (base:=c.base) (d:=c.ds.getD k 0) hn q;obtain⟨_,j,_,_,_⟩:=zF e g f hn;have p:=g k (by rw [e.len];exact f)
 refine⟨m,flipN m,rkX c.base (c.ds.getD k 0) h,fun a=>?_,fun a=>fB m m _ a rfl (ag b) rfl,fun a=>?_,fun a=>?_⟩
 ·have:=cU h (rkT c.base (c.ds.getD k 0)) _ _ a rfl rfl (ag s) (ag i);rw [n,ar] at this
  exact this
 ·have:=(ce (cz b).1).doc a;rw [t,ar] at this
  exact this
 ·have:=cU (c.fs.getD k 0) (rkX c.base (c.ds.getD k 0) h) _ _ a rfl rfl (ag p) (ag (by omega))
  rw [j,ar] at this
  exact this
noncomputable def bqV (c:Cv) (i j h k:Nat):Nat:=if i<=k/\k<j then c.bm k h else c.fs.getD k 0
noncomputable def bqL (c:Cv) (i j h n:Nat):List Nat:=(List.range n).map (bqV c i j h)
theorem La (c:Cv) (i j h k:Nat):bqL c i j h (k+1)=bqL c i j h k++[bqV c i j h k]:=by
 unfold bqL;rw [List.range_succ,List.map_append];rfl
theorem eL (c:Cv) (i j h k:Nat):(bqL c i j h k).length=k:=by unfold bqL;simp
theorem PO (w:World) (base kind:Int) (c h:Value):OfC w base kind c h (.slice none 0 0) (((w.alloc (.cells #[.int .i64 base,.int .i64 kind,c,h] 39)).alloc (.cells #[.int .i64 0,.int .i64 0,.slice none 0 0,.slice none 0 0] 39)).alloc (.cells #[.int .i64 base,.int .i64 kind,c,.slice none 0 0] 39)):=by
 have l:∀ (w:World) o,Below w.heap.size w (w.alloc o):=fun w o=>(Below.refl _ _).alloc (Nat.le_refl _) _
 generalize f:w.alloc (.cells #[.int .i64 base,.int .i64 kind,c,h] 39)=d;have m:d.heap.size=w.heap.size+1:=by rw [<- f];simp
 generalize b:d.alloc (.cells #[.int .i64 0,.int .i64 0,.slice none 0 0,.slice none 0 0] 39)=a;have r:a.heap.size=w.heap.size+2:=by rw [<- b];simp [m]
 have c1:∀ j,d.cell? ⟨w.heap.size,j,none⟩=(#[.int .i64 base,.int .i64 kind,c,h]:Array Value)[j]? :=fun j=>by rw [<- f];exact cP w _ _ j
 have c2:∀ j,a.cell? ⟨w.heap.size+1,j,none⟩=(#[.int .i64 0,.int .i64 0,.slice none 0 0,.slice none 0 0]:Array Value)[j]? :=fun j=>by rw [<- b,<- m];exact cP d _ _ j
 have c3:∀ j,(a.alloc (.cells #[.int .i64 base,.int .i64 kind,c,.slice none 0 0] 39)).cell? ⟨w.heap.size+2,j,none⟩=(#[.int .i64 base,.int .i64 kind,c,.slice none 0 0]:Array Value)[j]? :=fun j=>by rw [<- r];exact cP a _ _ j
 have g:∀ j,a.cell? ⟨w.heap.size,j,none⟩=d.cell? ⟨w.heap.size,j,none⟩:=fun j=>by rw [<- b];exact (l d _).cell (p:=⟨w.heap.size,j,none⟩) (by show w.heap.size<d.heap.size;omega)
 have e:∀ k<2,∀ j o,(a.alloc o).cell? ⟨w.heap.size+k,j,none⟩=a.cell? ⟨w.heap.size+k,j,none⟩:=fun k t j o=>(l a o).cell (p:=⟨w.heap.size+k,j,none⟩) (by show w.heap.size+k<a.heap.size;omega)
 have i:∀ j o,(a.alloc o).frozen? ⟨w.heap.size+1,j,none⟩=false:=fun j o=>by
  rw [(l a o).frozen (p:=⟨w.heap.size+1,j,none⟩) (by show w.heap.size+1<a.heap.size;omega),<- b,<- m]
  exact World.frozen?_alloc_new _ _ _ _
 have s:Below w.heap.size w (a.alloc (.cells #[.int .i64 base,.int .i64 kind,c,.slice none 0 0] 39)):=by
  have n:Below w.heap.size w d:=by rw [<- f];exact l w _
  have q:Below w.heap.size w a:=by rw [<- b];exact n.alloc n.size _
  exact q.alloc q.size _
 exact⟨((e 0 (by omega) 0 _).trans (g 0)).trans (c1 0),((e 0 (by omega) 1 _).trans (g 1)).trans (c1 1),((e 0 (by omega) 2 _).trans (g 2)).trans (c1 2),((e 0 (by omega) 3 _).trans (g 3)).trans (c1 3),(e 1 (by omega) 0 _).trans (c2 0),(e 1 (by omega) 1 _).trans (c2 1),(e 1 (by omega) 2 _).trans (c2 2),(e 1 (by omega) 3 _).trans (c2 3),i 0 _,i 1 _,i 2 _,i 3 _,c3 0,c3 1,c3 2,c3 3,by rw [<- r];exact World.frozen?_alloc_new _ _ _ _,s,by simp;omega⟩
structure BqO (w:World) (base kind:Int) (px:Option Addr) (n cx:Nat) (L:List Nat) (bad:Bool) (e:Ending) (w':World):Prop where
 no:bad=true->e=.returned (.tuple #[.agg #[.int .i64 0,.int .i64 0,.slice none 0 0,.slice none 0 0],.int .i64 91])
 yes:bad=false->∃ v,e=.returned (.tuple #[.agg #[.int .i64 base,.int .i64 kind,.slice px n cx,v],.int .i64 0])/\w'.ownsRow w.heap.size 41 1 v n (L.map uV)
 bl:Below w.heap.size w w'
theorem OfC.step {w wr b:World} {base kind:Int} {d a c:Value} (h:OfC w base kind d a c wr) (e:Below wr.heap.size wr b):OfC w base kind d a c b:=h.stay (e.mono h.sz)
theorem OfC.drewN {w wr:World} {base kind:Int} {c a b:Value} (h:OfC w base kind c a b wr) (q:Nat):OfC w base kind c a b (wr.drewN q):=h.stay ⟨rfl,rfl,rfl,Nat.le_refl _,fun _ _=>rfl⟩
theorem ks (c:Cv) (i j h n K:Nat) (S py:Option Addr) (W Z cx b2 oy cy:Nat) (w:World) (ok:c.Ok) (A:CSrcD w S py W Z b2 oy c.ds c.fs) (hv:c.Fit) (hn:c.ds.length=n) (hh:h<18446744073709551616) (hf:aM (h:Int)=true) (hK:K<=n) (U:∀ t<K,i<=t->t<j->bmB c t h=true) (al:K<n->i<=K/\K<j/\bmB c K h=false) :
  Calls Tryz.prog 43 #[.agg #[.int .i64 c.base,.int .i64 c.kind,.slice S n cx,.slice py n cy],.int .i64 i,.int .i64 j,.int .u64 (h:Int)] w fun e w'=>BqO w c.base c.kind S n cx (bqL c i j h n) (decide (K<n)) e w':=by
 have dx:n<=255:=by rw [<- hn];exact ok.hi
 have am:Hid (∀ k<n,c.base<c.ds.getD k 0/\c.ds.getD k 0<=109572/\0<=c.base):=fun k hk=>⟨(ok.day (k:=k) (by omega)).1,(ok.day (k:=k) (by omega)).2,ok.b0⟩
 have bo:Hid (∀ k<n,∃ m fm x,FcD (rkT c.base (c.ds.getD k 0)) h (c.fs.getD k 0) m fm x (c.bm k h)):=fun k hk=>PN ok hv (by omega) hh (cC hf)
 have da:Hid (∀ k<n,c.bm k h<18446744073709551616/\ah (c.bm k h:Nat)=false):=fun k hk=>by
  obtain⟨_,_,a,b,_⟩:=zF (k:=k) ok hv (by omega) (cC hf)
  exact⟨a,b⟩
 have cs:Hid (∀ k,bmB c k h=rkB (c.bm k h)):=fun k=>by unfold bmB;rw [hf];exact Bool.true_and _
 have dy:=ok.len;have Hx:Hid (c.ds.length=n):=hn;have Hy:Hid (c.fs.length=n):=by show _=_;omega
 have cm:=hideS U;have cd:=hideS al;clear ok hv hn hf U al dy hh;obtain⟨base,G⟩:∃ b,c.base=b:=⟨_,rfl⟩;obtain⟨kind,N⟩:∃ b,c.kind=b:=⟨_,rfl⟩;rw [G] at am bo
 rw [G,N];clear G N;have HY:=hideS A;have y:=hideS (PO w base kind (.slice S n cx) (.slice py n cy));have p0:∀ o,((w.alloc (.cells #[.int .i64 base,.int .i64 kind,(.slice S n cx),.slice py n cy] 39)).alloc o).cell? ⟨w.heap.size,0,none⟩=some (.int .i64 base):=fun o=>kP w _ _ o 0
 have p1:∀ o,((w.alloc (.cells #[.int .i64 base,.int .i64 kind,(.slice S n cx),.slice py n cy] 39)).alloc o).cell? ⟨w.heap.size,1,none⟩=some (.int .i64 kind):=fun o=>kP w _ _ o 1
 have p2:∀ o,((w.alloc (.cells #[.int .i64 base,.int .i64 kind,(.slice S n cx),.slice py n cy] 39)).alloc o).cell? ⟨w.heap.size,2,none⟩=some (.slice S n cx):=fun o=>kP w _ _ o 2
 clear A
 go_enter Tryz.func43,Tryz.ntmps43
 go_wp2_with fail
 clear p0 p1 p2
 go_loopw [11,12,13] (fun a _ _ s=>∃ k:Nat,k<=K/\a=.int .i64 k/\Hid (∃ v,s.ownsRow (w.heap.size+3) 41 1 v k ((bqL c i j h k).map uV)/\OfC w base kind (.slice S n cx) (.slice py n cy) v s)) (fun a _ _ _=>n - (intOf a).toNat)
 case atStart=>exact⟨0,Nat.zero_le _,rfl,_,gF _ _,y.out⟩
 case round=>
  clear y;obtain⟨k,hk,rfl,HH⟩:=hrel;obtain⟨v,ho,hb⟩:=HH.out;obtain⟨q0,g0,B,rfl,_,_,_,_⟩:=bq ho (eL _ _ _ _ _);have HO:=hideS ho;have y:=hideS hb;clear ho hb HH;have t3:=y.out.t3
  by_cases E:k<n
  ·obtain rfl:=HY.out.f.at_ (by rw [Hy.out];omega)
   obtain rfl:=HY.out.d.at_ (by rw [Hx.out];omega)
   have dn:s.cell? ⟨b2,oy+k,none⟩=some (.int .u64 (c.fs.getD k 0:Nat)):=(y.out.bl.cell (p:=⟨b2,oy+k,none⟩) (HY.out.f.lt (by rw [Hy.out];omega))).trans (HY.out.f.cell k (by rw [Hy.out];exact E))
   have bv:s.cell? ⟨W,Z+k,none⟩=some (.int .i64 (c.ds.getD k 0)):=(y.out.bl.cell (p:=⟨W,Z+k,none⟩) (HY.out.d.lt (by rw [Hx.out];omega))).trans (HY.out.d.cell k (by rw [Hx.out];exact E))
   have ac:Hid (∀ wx,Below w.heap.size w wx->wx.cell? ⟨W,Z+k,none⟩=some (.int .i64 (c.ds.getD k 0))):=fun wx hb=>(hb.cell (p:=⟨W,Z+k,none⟩) (HY.out.d.lt (by rw [Hx.out];omega))).trans (HY.out.d.cell k (by rw [Hx.out];exact E))
   obtain⟨d0,d1,d2⟩:=am.out k E;obtain⟨m,fm,x,hF⟩:=bo.out k E;obtain⟨np,nq,X,Y,hP⟩:=PM d0 (by omega)
   have HF:=hideS hF;have HP:=hideS hP;have C:=hideS (La c i j h k);have hV:bqV c i j h k=if i<=k/\k<j then c.bm k h else c.fs.getD k 0:=rfl
   obtain⟨ul,un⟩:=da.out k E;have l:=cs.out k;unfold rkB at l
   have ak:ltB 0 (c.bm k h:Nat)=decide (0<ae (c.bm k h:Nat)):=by rw [aC (by decide) un,show ae 0=0 by decide]
   rw [<- ak] at l
   have bs:=hideS fun wx=>co (c.bm k h:Nat) wx (ag ul)
   have br:=hideS fun wx=>go 0 (c.bm k h:Nat) wx (by unfold U64;omega) (ag ul)
   have I:=cm.out k;have H:=cd.out;clear hF hP ak un;obtain⟨P,dg⟩:∃ P,c.ds.getD k 0 - base=P:=⟨_,rfl⟩;have cf:IntKind.i64.wrap (c.ds.getD k 0 - base)=P:=by rw [IntKind.wrap_i64];omega
   rw [dg] at HP
   generalize aM (c.bm k h:Nat)=b1 at *
   generalize ltB 0 (c.bm k h:Nat)=cq at *
   generalize rkT base (c.ds.getD k 0)=T at *
   generalize c.bm k h=u at *
   generalize c.fs.getD k 0=f at *
   generalize c.ds.getD k 0=D at *
   have l1:(0:Int)<=(k:Int):=Int.natCast_nonneg _;have l2:(k:Int)<(n:Int):=by omega
   clear dg d0 d1 d2
   by_cases Q:i<=k/\k<j
   ·rw [if_pos Q] at hV
    rw [hV] at C
    have l3:(i:Int)<=(k:Int):=by omega
    have l4:(k:Int)<(j:Int):=by omega
    obtain⟨ct,cv⟩:=Q;clear hV
    go_wp2_with fail
    have db:=hideS (And.intro y.out.t0 (And.intro y.out.t2 (ac.out _ y.out.bl)));clear t3 dn bv
    go_region_held3 (fun w'=>w'.cell? ⟨w.heap.size,0,none⟩=some (.int .i64 base)/\w'.cell? ⟨w.heap.size,2,none⟩=some (.slice (some ⟨W,Z,none⟩) n cx)/\w'.cell? ⟨W,Z+k,none⟩=some (.int .i64 D)) (first | exact db.out | exact cu.out | exact cl.out | exact ci.out | go_keep) (first | ((go_at_call_of 62 (Value.int IntKind.i64 P);refine (HP.out.w1 _).mono ?_;rintro e w2 ⟨vx,rfl,as,bb⟩;obtain⟨p1,n1,c1,rfl⟩:=dt as;have V:=hideS (y.out.step ((Below.refl s.heap.size s).drew.trans bb));have dd:=hideS (ao HO.out ((Below.refl s.heap.size s).drew.trans bb));have cu:=hideS (And.intro V.out.t0 (And.intro V.out.t2 (ac.out _ V.out.bl)));have cp:=hideS as;clear bb as)) | ((go_at_call_of 62 (Value.int IntKind.i64 365);refine (HP.out.w2 _).mono ?_;rintro e w3 ⟨vy,rfl,ba,ab⟩;obtain⟨p2,n2,c2,rfl⟩:=dt ba;have R:=hideS (V.out.step ab);have dc:=hideS (ao dd.out ab);have cl:=hideS (And.intro R.out.t0 (And.intro R.out.t2 (ac.out _ R.out.bl)));have ai:=hideS (cp.out.below ab);have ad:=hideS ba;clear ab ba)) | ((go_at_call 61;refine (HP.out.w3 _ _ _ ai.out ad.out).mono ?_;rintro e w4 ⟨rfl,bc⟩;have O:=hideS (R.out.step bc);have cc:=hideS (ao dc.out bc);have ci:=hideS (And.intro O.out.t0 (And.intro O.out.t2 (ac.out _ O.out.bl)));clear bc)))
    all_goals
     clear y V R HO dd dc db cu cl ci HP cp ai ad cf
     go_wp2_with fail
     refine (HF.out.m1 _).mono ?_
     rintro e w5 ⟨rfl,bi⟩;have df:=hideS (O.out.step bi);have cr:=hideS (ao cc.out bi);clear bi O cc
     go_wp2_with fail
     refine (HF.out.m2 _).mono ?_
     rintro e w6 ⟨rfl,rfl⟩
     go_wp2_with fail
     refine (HF.out.m3 _).mono ?_
     rintro e w7 ⟨rfl,bh⟩;have bz:=hideS (df.out.step bh);have ca:=hideS (ao cr.out bh);clear bh df cr
     go_wp2_with fail
     refine (HF.out.m4 _).mono ?_
     rintro e w8 ⟨rfl,bk⟩;have J:=hideS (bz.out.step bk);have di:=hideS (ao ca.out bk);clear bk bz ca HF
     go_wp2_with fail
     refine (turned (bs.out _)).mono ?_
     rintro e w9 ⟨rfl,rfl⟩;cases b1
     ·have l:bmB c k h=false:=l;obtain rfl:k=K:=Nat.le_antisymm hk (Nat.le_of_not_lt fun e=>by have:=I e ct cv;rw [l] at this;cases this)
      clear I H l C;obtain⟨_,_,_,_,d0,d1,d2,d3,e0,e1,e2,e3,_,_,_,_,_,_,_⟩:=J.out
      go_wp2_with fail
      refine bodyPost_ret (v:=.tuple #[.agg #[.int .i64 0,.int .i64 0,.slice none 0 0,.slice none 0 0],.int .i64 91]) (by simp [results,Tryz.results43,go_sem,d0,d1,d2,d3]) rfl ?_
      have A:∀ j,w.heap.size<=(⟨w.heap.size+1,j,none⟩:Addr).block:=fun j=>by show w.heap.size<=w.heap.size+1;omega
      have M:Below w.heap.size w ((((w8.setCell ⟨w.heap.size+1,0,none⟩ (.int .i64 0)).setCell ⟨w.heap.size+1,1,none⟩ (.int .i64 0)).setCell ⟨w.heap.size+1,2,none⟩ (.slice none 0 0)).setCell ⟨w.heap.size+1,3,none⟩ (.slice none 0 0)):=(((J.out.bl.setCell (A 0) _).setCell (A 1) _).setCell (A 2) _).setCell (A 3) _;exact⟨fun _=>rfl,fun e=>(by first | exact absurd E (of_decide_eq_false e) | cases e),M⟩
     ·have l:bmB c k h=cq:=l
      go_wp2_with fail
      refine (turned (br.out _)).mono ?_
      rintro e w9 ⟨rfl,rfl⟩;cases cq
      ·skip
       obtain rfl:k=K:=Nat.le_antisymm hk (Nat.le_of_not_lt fun e=>by have:=I e ct cv;rw [l] at this;cases this)
       clear I H l C;obtain⟨_,_,_,_,d0,d1,d2,d3,e0,e1,e2,e3,_,_,_,_,_,_,_⟩:=J.out
       go_wp2_with fail
       refine bodyPost_ret (v:=.tuple #[.agg #[.int .i64 0,.int .i64 0,.slice none 0 0,.slice none 0 0],.int .i64 91]) (by simp [results,Tryz.results43,go_sem,d0,d1,d2,d3]) rfl ?_
       have A:∀ j,w.heap.size<=(⟨w.heap.size+1,j,none⟩:Addr).block:=fun j=>by show w.heap.size<=w.heap.size+1;omega
       have M:Below w.heap.size w ((((w8.setCell ⟨w.heap.size+1,0,none⟩ (.int .i64 0)).setCell ⟨w.heap.size+1,1,none⟩ (.int .i64 0)).setCell ⟨w.heap.size+1,2,none⟩ (.slice none 0 0)).setCell ⟨w.heap.size+1,3,none⟩ (.slice none 0 0)):=(((J.out.bl.setCell (A 0) _).setCell (A 1) _).setCell (A 2) _).setCell (A 3) _;exact⟨fun _=>rfl,fun e=>(by first | exact absurd E (of_decide_eq_false e) | cases e),M⟩
      ·have dk:k<K:=Nat.lt_of_le_of_ne hk (fun e=>by obtain⟨_,_,a3⟩:=H (by omega);rw [<- e,l] at a3;cases a3)
       have HN:=C;clear I H l C bs br ul;have F:Hid (∀ o,(w8.alloc o).ownsRow (w.heap.size+3) 41 1 (.slice q0 k B) k ((bqL c i j h k).map uV)):=fun o=>ao di.out ((Below.refl _ w8).alloc (Nat.le_refl _) o)
       have g:Hid (∀ o,OfC w base kind (.slice (some ⟨W,Z,none⟩) n cx) (.slice (some ⟨b2,oy,none⟩) n cy) (.slice q0 k B) (w8.alloc o)):=fun o=>J.out.step ((Below.refl _ w8).alloc (Nat.le_refl _) o)
       have o3:=J.out.o3;have y3:=(g.out (.cells #[.int .u64 (u:Int)] 41)).o3
       go_wp2_with (at_builtin;refine aH _ rfl (.tmp 69) (.tmp 71) rfl (w.heap.size+3) _ k (bqL c i j h k) rfl (F.out _) w8.heap.size u rfl (by simp) (by omega) (g.out (.cells #[.int .u64 (u:Int)] 41)).sz ?_;intro v6 w6 r z;obtain⟨q6,g6,c6,rfl,_,_,_,_⟩:=bq r (by rw [List.length_append,eL];rfl);have q:=hideS ((g.out _).stay (aW (F.out _) z (g.out (.cells #[.int .u64 (u:Int)] 41)).sz));have L:=hideS r;have c2:=q.out.o3;have c3:=q.out.f3;clear r z o3 y3)
       go_roundw
       case rel=>exact⟨k+1,by omega,by simp,_,by rw [HN.out];exact bt L.out (by omega) _,q.out.put _⟩
       case measure=>simp [intOf];omega
   ·rw [if_neg Q] at hV
    rw [hV] at C
    have HN:=C;have dk:k<K:=by
     apply Nat.lt_of_le_of_ne hk;intro e;obtain⟨a1,a2,_⟩:=H (by omega)
     omega
    clear C HF HP bs br l I H cf bv ul;have l5:(i:Int)<=(k:Int)->¬ (k:Int)<(j:Int):=by omega
    by_cases l3:(i:Int)<=(k:Int)
    ·have l4:=l5 l3;clear l5 Q;have F:Hid (∀ o,(s.alloc o).ownsRow (w.heap.size+3) 41 1 (.slice q0 k B) k ((bqL c i j h k).map uV)):=fun o=>ao HO.out ((Below.refl _ s).alloc (Nat.le_refl _) o)
     have g:Hid (∀ o,OfC w base kind (.slice (some ⟨W,Z,none⟩) n cx) (.slice (some ⟨b2,oy,none⟩) n cy) (.slice q0 k B) (s.alloc o)):=fun o=>y.out.step ((Below.refl _ s).alloc (Nat.le_refl _) o)
     have o3:=y.out.o3;have y3:=(g.out (.cells #[.int .u64 (f:Int)] 41)).o3
     go_wp2_with (at_builtin;refine aH _ rfl (.tmp 69) (.tmp 71) rfl (w.heap.size+3) _ k (bqL c i j h k) rfl (F.out _) s.heap.size f rfl (by simp) (by omega) (g.out (.cells #[.int .u64 (f:Int)] 41)).sz ?_;intro v6 w6 r z;obtain⟨q6,g6,c6,rfl,_,_,_,_⟩:=bq r (by rw [List.length_append,eL];rfl);have q:=hideS ((g.out _).stay (aW (F.out _) z (g.out (.cells #[.int .u64 (f:Int)] 41)).sz));have L:=hideS r;have c2:=q.out.o3;have c3:=q.out.f3;clear r z o3 y3)
     go_roundw
     case rel=>exact⟨k+1,by omega,by simp,_,by rw [HN.out];exact bt L.out (by omega) _,q.out.put _⟩
     case measure=>simp [intOf];omega
    ·have l6:(k:Int)<(i:Int):=by omega
     clear l5 Q l3;have F:Hid (∀ o,(s.alloc o).ownsRow (w.heap.size+3) 41 1 (.slice q0 k B) k ((bqL c i j h k).map uV)):=fun o=>ao HO.out ((Below.refl _ s).alloc (Nat.le_refl _) o)
     have g:Hid (∀ o,OfC w base kind (.slice (some ⟨W,Z,none⟩) n cx) (.slice (some ⟨b2,oy,none⟩) n cy) (.slice q0 k B) (s.alloc o)):=fun o=>y.out.step ((Below.refl _ s).alloc (Nat.le_refl _) o)
     have o3:=y.out.o3;have y3:=(g.out (.cells #[.int .u64 (f:Int)] 41)).o3
     go_wp2_with (at_builtin;refine aH _ rfl (.tmp 69) (.tmp 71) rfl (w.heap.size+3) _ k (bqL c i j h k) rfl (F.out _) s.heap.size f rfl (by simp) (by omega) (g.out (.cells #[.int .u64 (f:Int)] 41)).sz ?_;intro v6 w6 r z;obtain⟨q6,g6,c6,rfl,_,_,_,_⟩:=bq r (by rw [List.length_append,eL];rfl);have q:=hideS ((g.out _).stay (aW (F.out _) z (g.out (.cells #[.int .u64 (f:Int)] 41)).sz));have L:=hideS r;have c2:=q.out.o3;have c3:=q.out.f3;clear r z o3 y3)
     go_roundw
     case rel=>exact⟨k+1,by omega,by simp,_,by rw [HN.out];exact bt L.out (by omega) _,q.out.put _⟩
     case measure=>simp [intOf];omega
  ·obtain rfl:k=n:=by omega
   have dp:¬ K<k:=by omega
   clear cm cd am bo da cs;have dY:¬ (k:Int)<(k:Int):=by omega
   have dE:=y.out.sz;obtain⟨t0,t1,t2,_,d0,d1,d2,d3,e0,e1,e2,e3,o0,o1,o2,o3,f3,_,_⟩:=y.out
   go_wp2_with fail
   refine bodyPost_ret (v:=.tuple #[.agg #[.int .i64 base,.int .i64 kind,.slice S k cx,.slice q0 k B],.int .i64 0]) (by simp [results,Tryz.results43,go_sem,d0,d1,d2,d3]) rfl ?_
   have A:∀ j,w.heap.size<=(⟨w.heap.size+1,j,none⟩:Addr).block:=fun j=>by show w.heap.size<=w.heap.size+1;omega
   have M:Below w.heap.size w ((((s.setCell ⟨w.heap.size+1,0,none⟩ (.int .i64 base)).setCell ⟨w.heap.size+1,1,none⟩ (.int .i64 kind)).setCell ⟨w.heap.size+1,2,none⟩ (.slice S k cx)).setCell ⟨w.heap.size+1,3,none⟩ (.slice q0 k B)):=(((y.out.bl.setCell (A 0) _).setCell (A 1) _).setCell (A 2) _).setCell (A 3) _;exact⟨fun e=>(by first | exact absurd (of_decide_eq_true e) dp | cases e),fun _=>⟨_,rfl,fX (bt (bt (bt (bt HO.out (by omega) _) (by omega) _) (by omega) _) (by omega) _) (by omega)⟩,M⟩
end Go.Proofs.YtfdddijdjpijbaaGreat
