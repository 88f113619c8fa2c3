/-  -/
import Derived.Test.YtfdddijdjpijbaaGreatHbr
import Derived.Test.YtfdddijdjpijbaaGreatRkS
import Derived.Test.YtfdddijdjpijbaaGreatHax
import Derived.Test.YtfdddijdjpijbaaGreatHbq
import Derived.Test.YtfdddijdjpijbaaGreatHbn
import Derived.Test.YtfdddijdjpijbaaGreatHba
import Derived.Test.YtfdddijdjpijbaaGreatHay
set_option maxHeartbeats 12800000
set_option maxRecDepth 40000
namespace Go.Proofs.YtfdddijdjpijbaaGreat
open Go.RowKit
structure OwnC (w:World) (B:Nat) (d:Cv) (gx cx gy cy:Nat):Prop where
 x:w.ownsRow B 3 1 (.slice (some ⟨gx,0,none⟩) d.ds.length cx) d.ds.length (d.ds.map kV)
 y:w.ownsRow B 27 1 (.slice (some ⟨gy,0,none⟩) d.fs.length cy) d.fs.length (d.fs.map fV)
 n:0<d.ds.length
 m:0<d.fs.length
 f:d.Fit
theorem OwnC.src {w:World} {B:Nat} {d:Cv} {k cx j cy:Nat} (h:OwnC w B d k cx j cy):TFl w (some ⟨k,0,none⟩) (some ⟨j,0,none⟩) k 0 j 0 d.ds d.fs:=by
 obtain⟨g,c,e,l,_⟩:=dD h.x rfl h.n;obtain⟨q,p,o,i,_⟩:=fx h.y rfl h.m;injection e with a _ _;injection a with a;injection a with a;injection o with b _ _;injection b with b;injection b with b;subst a b;exact⟨l,i,h.f⟩
theorem OwnC.below {w c:World} {B:Nat} {d:Cv} {e cx b cy:Nat} (h:OwnC w B d e cx b cy) (a:Below w.heap.size w c):OwnC c B d e cx b cy:=⟨de h.x a,de h.y a,h.n,h.m,h.f⟩
theorem OwnC.mono {w:World} {B B':Nat} {d:Cv} {c cx b cy:Nat} (h:OwnC w B d c cx b cy) (a:B'<=B):OwnC w B' d c cx b cy:=⟨bS h.x a,bS h.y a,h.n,h.m,h.f⟩
theorem OwnC.put {w:World} {B b j:Nat} {d:Cv} {e cx c cy:Nat} (h:OwnC w B d e cx c cy) (a:b<B) (x:Value):OwnC (w.setCell ⟨b,j,none⟩ x) B d e cx c cy:=⟨aw h.x a x,aw h.y a x,h.n,h.m,h.f⟩
structure CvO (w:World) (d:Cv) (E:Int) (e:Ending) (w':World):Prop where
 bad:E≠0->e=.returned (.tuple #[.agg #[.int .i64 0,.int .i64 0,.slice none 0 0,.slice none 0 0],.int .i64 E])
 ok:E=0->∃ gx cx gy cy,e=.returned (.tuple #[.agg #[.int .i64 d.base,.int .i64 d.kind,.slice (some ⟨gx,0,none⟩) d.ds.length cx,.slice (some ⟨gy,0,none⟩) d.fs.length cy],.int .i64 0])/\OwnC w' w.heap.size d gx cx gy cy
 bl:Below w.heap.size w w'
structure CpB (w:World) (base kind:Int) (vd vf:Value) (wr:World):Prop where
 k:BxK wr w.heap.size base kind vd vf
 z:wr.heap[w.heap.size+1]? =some ar
 bl:Below w.heap.size w wr
theorem CpB.step {w wr c:World} {base kind:Int} {b d:Value} (h:CpB w base kind b d wr) (a:Below wr.heap.size wr c):CpB w base kind b d c:=
 ⟨h.k.step a,(a.block _ (Array.getElem?_eq_some_iff.1 h.z).1).trans h.z,h.bl.trans (a.mono h.bl.size)⟩
theorem CpB.stay {w wr c:World} {B:Nat} {base kind:Int} {b d:Value} (h:CpB w base kind b d wr) (a:Below B wr c) (e:w.heap.size+2<=B):CpB w base kind b d c:=
 ⟨⟨(a.block _ (by omega)).trans h.k.blk⟩,(a.block _ (by omega)).trans h.z,h.bl.trans (a.mono (by omega))⟩
theorem CpB.sz {w wr:World} {base kind:Int} {a b:Value} (h:CpB w base kind a b wr):w.heap.size+2<=wr.heap.size:=(Array.getElem?_eq_some_iff.1 h.z).1
theorem iU (w:World) (base kind:Int) (a b:Value):CpB w base kind a b ((w.alloc (.cells #[.int .i64 base,.int .i64 kind,a,b] 26)).alloc ar):=by
 have c:(w.alloc (.cells #[.int .i64 base,.int .i64 kind,a,b] 26)).heap.size=w.heap.size+1:=by simp
 refine⟨(rl w base kind a b).step ((Below.refl _ _).alloc (Nat.le_refl _) _),?_,((Below.refl _ _).alloc (Nat.le_refl _) _).alloc (by rw [c];omega) _⟩
 rw [<- c];exact heap_alloc_new _ _
theorem CpB.put {w wr:World} {base kind:Int} {a b:Value} (h:CpB w base kind a b wr) (x y:Value):CpB w base kind x y ((wr.setCell ⟨w.heap.size,2,none⟩ x).setCell ⟨w.heap.size,3,none⟩ y):=by
 refine⟨⟨au _ (au _ h.k.blk)⟩,?_,(h.bl.setCell (p:=⟨w.heap.size,2,none⟩) (Nat.le_refl _) x).setCell (p:=⟨w.heap.size,3,none⟩) (Nat.le_refl _) y⟩
 rw [Below.heap_setCell _ ⟨w.heap.size,3,none⟩ y _ (by show w.heap.size+1≠w.heap.size;omega),Below.heap_setCell _ ⟨w.heap.size,2,none⟩ x _ (by show w.heap.size+1≠w.heap.size;omega)]
 exact h.z
theorem BxK.frz {w:World} {g:Nat} {base kind:Int} {a b:Value} (h:BxK w g base kind a b) (i:Nat):w.frozen? ⟨g,i,none⟩=false:=frozen_of_row _ _ i _ _ h.blk
theorem CB (base kind:Int) (bd p y s r x n:Nat) (E:List Int) (R:List Nat) (w:World) (hd:VSrc w (some ⟨bd,p,none⟩) bd p n (xV E)) (hf:VSrc w (some ⟨s,r,none⟩) s r n (flV R)) (hl:E.length=n) (N:R.length=n) (hn:1<=n) (bb:n<=255) :
  Calls Tryz.prog 39 #[.agg #[.int .i64 base,.int .i64 kind,.slice (some ⟨bd,p,none⟩) n y,.slice (some ⟨s,r,none⟩) n x]] w fun e Y=>∃ d cx o cy,e=.returned (.agg #[.int .i64 base,.int .i64 kind,.slice (some ⟨d,0,none⟩) n cx,.slice (some ⟨o,0,none⟩) n cy])/\Y.ownsRow w.heap.size 3 1 (.slice (some ⟨d,0,none⟩) n cx) n (E.map kV)/\Y.ownsRow w.heap.size 27 1 (.slice (some ⟨o,0,none⟩) n cy) n (R.map fV)/\Below w.heap.size w Y:=by
 have O:=hideS (iU w base kind (.slice (some ⟨bd,p,none⟩) n y) (.slice (some ⟨s,r,none⟩) n x));have Q:=hideS fun q (hb:Below w.heap.size w q)=>Cx bd p n y E q (hd.below hb) hl (by omega) (by omega)
 have H:=hideS fun q (hb:Below w.heap.size w q)=>Cy s r n x R q (hf.below hb) N (by omega) (by omega)
 clear hd hf hl N;obtain⟨b,A⟩:∃ b,(w.alloc (.cells #[.int .i64 base,.int .i64 kind,.slice (some ⟨bd,p,none⟩) n y,.slice (some ⟨s,r,none⟩) n x] 26)).alloc ar=b:=⟨_,rfl⟩;rw [A] at O
 unfold ar at A
 obtain⟨S,V,G,F⟩:=O.out.k.t
 go_enter Tryz.func39,Tryz.ntmps39
 go_wp2_with fail
 clear A;refine rO (fun xw=>xw.cell? ⟨w.heap.size,2,none⟩=some (.slice (some ⟨bd,p,none⟩) n y)/\xw.cell? ⟨w.heap.size,3,none⟩=some (.slice (some ⟨s,r,none⟩) n x)) (fun i=>i==7||i==8||i==9) (by kernel_rfl) ?_
 have l:b.drew.cell? ⟨w.heap.size,2,none⟩=some (.slice (some ⟨bd,p,none⟩) n y)/\b.drew.cell? ⟨w.heap.size,3,none⟩=some (.slice (some ⟨s,r,none⟩) n x):=⟨G,F⟩;refine ig 0 (.pointer (some ⟨w.heap.size,2,none⟩)) rfl (by kernel_rfl) (by kernel_rfl) (by kernel_rfl) (by kernel_rfl) (by kernel_rfl) (fun _ _ _ h=>h) (by rfl) l (fun q u=>by obtain⟨U,T⟩:=u;go_simp) ?_
 simp only [Act.put,List.setIfInBounds_toArray];refine ig 1 (.slice (some ⟨bd,p,none⟩) n y) rfl (by kernel_rfl) (by kernel_rfl) (by kernel_rfl) (by kernel_rfl) (by kernel_rfl) (fun _ _ _ h=>h) (by rfl) l (fun q u=>by obtain⟨U,T⟩:=u;go_simp) ?_
 simp only [Act.put];refine ig 3 (.pointer (some ⟨w.heap.size,3,none⟩)) rfl (by kernel_rfl) (by kernel_rfl) (by kernel_rfl) (by kernel_rfl) (by kernel_rfl) (fun _ _ _ h=>h) (by rfl) l (fun q u=>by obtain⟨U,T⟩:=u;go_simp) ?_
 simp only [Act.put];refine ig 4 (.slice (some ⟨s,r,none⟩) n x) rfl (by kernel_rfl) (by kernel_rfl) (by kernel_rfl) (by kernel_rfl) (by kernel_rfl) (fun _ _ _ h=>h) (by rfl) l (fun q u=>by obtain⟨U,T⟩:=u;go_simp) ?_
 simp only [Act.put];refine jI (i:=2) (by kernel_rfl) ?_
 refine wpOp_step rfl (fun K1 Z=>?_)
 go_simp
 go_at_call 55
 refine (Q.out _ (O.out.bl.drew)).mono ?_
 rintro e K ⟨d,cx,rfl,J,c⟩;have g:Below b.heap.size b K:=⟨c.os,c.tape,c.output,c.size,c.block⟩;have m:=hideS (O.out.step g);have L:Hid (K.ownsRow b.heap.size 3 1 (.slice (some ⟨d,0,none⟩) n cx) n (E.map kV)):=J;have D:K.cell? ⟨w.heap.size,2,none⟩=some (.slice (some ⟨bd,p,none⟩) n y)/\K.cell? ⟨w.heap.size,3,none⟩=some (.slice (some ⟨s,r,none⟩) n x):=⟨m.out.k.t.2.2.1,m.out.k.t.2.2.2⟩;have ab:Hid (b.heap.size<=K.heap.size):=g.size;clear J c g l S V G F;refine Z _ _ ⟨fun _=>D,?_⟩
 refine ig 6 (.pointer (some ⟨w.heap.size,2,none⟩)) rfl (by kernel_rfl) (by kernel_rfl) (by kernel_rfl) (by kernel_rfl) (by kernel_rfl) (fun _ _ _ h=>h) (by rfl) D (fun q u=>by obtain⟨U,T⟩:=u;go_simp) ?_
 simp only [Act.put,List.setIfInBounds_toArray];refine jI (i:=5) (by kernel_rfl) ?_
 refine wpOp_step rfl (fun K2 X=>?_)
 go_simp
 go_at_call 56
 refine (H.out _ m.out.bl).mono ?_
 rintro e w4 ⟨o,cy,rfl,P,B⟩;have f:=hideS (m.out.step B);have I:=hideS (de L.out B);have M:=hideS (bS P ab.out);obtain⟨S,V,G,F⟩:=f.out.k.t;have z2:=f.out.k.frz 2;have z3:=f.out.k.frz 3;have C:=hideS (f.out.put (.slice (some ⟨d,0,none⟩) n cx) (.slice (some ⟨o,0,none⟩) n cy));have a:=hideS O.out.sz;have W:=hideS (aw (j:=3) (aw (j:=2) I.out (show w.heap.size<b.heap.size by have:=a.out;omega) (.slice (some ⟨d,0,none⟩) n cx)) (show w.heap.size<b.heap.size by have:=a.out;omega) (.slice (some ⟨o,0,none⟩) n cy))
 have ba:=hideS (aw (j:=3) (aw (j:=2) M.out (show w.heap.size<b.heap.size by have:=a.out;omega) (.slice (some ⟨d,0,none⟩) n cx)) (show w.heap.size<b.heap.size by have:=a.out;omega) (.slice (some ⟨o,0,none⟩) n cy))
 clear P B m L I M Q H;refine X _ _ ⟨fun _=>⟨G,F⟩,?_⟩
 refine jI (i:=7) (by kernel_rfl) ?_
 refine wpOp_step rfl (fun K3 as=>?_)
 go_simp;refine as _ _ ⟨fun h=>absurd h (by decide),?_⟩
 refine jI (i:=8) (by kernel_rfl) ?_
 refine wpOp_step rfl (fun K4 ad=>?_)
 go_simp;refine ad _ _ ⟨fun h=>absurd h (by decide),?_⟩
 refine jI (i:=9) (by kernel_rfl) ?_
 refine wpOp_step rfl (fun K5 al=>?_)
 go_simp;refine al _ _ ⟨fun h=>absurd h (by decide),?_⟩
 refine GH (by kernel_rfl) ?_
 clear S V G F z2 z3 D f;generalize (w4.setCell ⟨w.heap.size,2,none⟩ (.slice (some ⟨d,0,none⟩) n cx)).setCell ⟨w.heap.size,3,none⟩ (.slice (some ⟨o,0,none⟩) n cy)=w5 at *
 obtain⟨S,V,G,F⟩:=C.out.k.t;obtain⟨u1,u2,u3,u4,⟨e0,z0,y0⟩,⟨e1,z1,y1⟩,⟨e2,z2,y2⟩,⟨e3,z3,y3⟩,hZ,hB⟩:=bD (w.heap.size+1) base kind (.slice (some ⟨d,0,none⟩) n cx) (.slice (some ⟨o,0,none⟩) n cy) w5 C.out.z;have ai:=hideS (C.out.bl.trans (hB.mono (by omega)))
 have am:Hid (u4.ownsRow b.heap.size 3 1 (.slice (some ⟨d,0,none⟩) n cx) n (E.map kV)):=by
  show World.ownsRow _ _ _ _ _ _ _
  rw [<- e3,<- e2,<- e1,<- e0];exact aw (aw (aw (aw W.out (by have:=a.out;omega) _) (by have:=a.out;omega) _) (by have:=a.out;omega) _) (by have:=a.out;omega) _
 have ac:Hid (u4.ownsRow b.heap.size 27 1 (.slice (some ⟨o,0,none⟩) n cy) n (R.map fV)):=by
  show World.ownsRow _ _ _ _ _ _ _
  rw [<- e3,<- e2,<- e1,<- e0];exact aw (aw (aw (aw ba.out (by have:=a.out;omega) _) (by have:=a.out;omega) _) (by have:=a.out;omega) _) (by have:=a.out;omega) _
 obtain⟨s0,s1,s2,s3⟩:=hZ.t;clear hZ hB
 go_wp2_with fail
 refine bodyPost_ret (v:=.agg #[.int .i64 base,.int .i64 kind,.slice (some ⟨d,0,none⟩) n cx,.slice (some ⟨o,0,none⟩) n cy]) (by simp [results,Tryz.results39,go_sem,s0,s1,s2,s3]) rfl ?_
 exact⟨d,cx,o,cy,rfl,bS am.out (by have:=a.out;omega),bS ac.out (by have:=a.out;omega),ai.out⟩
theorem Eb {w:World} {B:Nat} {c:Cv} {b cx a cy k u:Nat} (h:OwnC w B c b cx a cy) (l:k<c.fs.length) (g:u<18446744073709551616) (i:b≠a):OwnC (w.setCell ⟨a,k,none⟩ (.float .f64 u)) B ⟨c.base,c.kind,c.ds,c.fs.set k u⟩ b cx a cy:=by
 have o:=World.ownsRow.stored h.y k (.float .f64 u);refine⟨ownsRow_setCell_other h.x (by intro e;simp [Value.ownBlock] at e;exact i e) _,?_,h.n,by show 0<(c.fs.set k u).length;rw [List.length_set];exact h.m,fun j d=>?_⟩
 ·show World.ownsRow _ _ _ _ (.slice (some ⟨a,0,none⟩) (c.fs.set k u).length cy) (c.fs.set k u).length ((c.fs.set k u).map fV)
  rw [List.length_set,List.map_set];exact o.1
 ·show (c.fs.set k u).getD j 0<_
  rw [getD_set l]
  split
  ·exact g
  ·exact h.f j (by have:(c.fs.set k u).length=c.fs.length:=List.length_set;rw [<- this];exact d)
theorem OwnC.ne {w:World} {B:Nat} {d:Cv} {b cx a cy:Nat} (h:OwnC w B d b cx a cy):b≠a:=wH h.x h.y (by decide)
theorem OwnC.lo {w:World} {B:Nat} {d:Cv} {b cx a cy:Nat} (h:OwnC w B d b cx a cy):B<=b/\B<=a:=⟨(h.x.lt b rfl).1,(h.y.lt a rfl).1⟩
theorem OwnC.hi {w:World} {B:Nat} {d:Cv} {b cx a cy:Nat} (h:OwnC w B d b cx a cy):b<w.heap.size/\a<w.heap.size:=⟨(h.x.lt b rfl).2,(h.y.lt a rfl).2⟩
theorem OwnC.cell {w:World} {B:Nat} {d:Cv} {c cx a cy k:Nat} (h:OwnC w B d c cx a cy) (b:k<d.fs.length):w.cell? ⟨a,k,none⟩=some (.float .f64 (d.fs.getD k 0))/\w.frozen? ⟨a,k,none⟩=false:=by
 have:=h.src.y.cell k b;rw [Nat.zero_add] at this
 exact⟨this,World.ownsRow.frozenAt h.y k⟩
theorem OwnC.far {w:World} {B b j:Nat} {d:Cv} {c cx a cy:Nat} (h:OwnC w B d c cx a cy) (g:c≠b) (i:a≠b) (x:Value):OwnC (w.setCell ⟨b,j,none⟩ x) B d c cx a cy:=
 ⟨ownsRow_setCell_other h.x (by intro e;simp [Value.ownBlock] at e;exact g e) _,ownsRow_setCell_other h.y (by intro e;simp [Value.ownBlock] at e;exact i e) _,h.n,h.m,h.f⟩
theorem uA {g u1 u2 u3 i:World} {B b:Nat} {d:Cv} {f cx e cy:Nat} {j k p l:Value} (h:OwnC g B d f cx e cy) (c:f≠b) (a:e≠b) (m:g.setCell ⟨b,0,none⟩ j=u1) (q:u1.setCell ⟨b,1,none⟩ k=u2) (n:u2.setCell ⟨b,2,none⟩ p=u3) (o:u3.setCell ⟨b,3,none⟩ l=i):OwnC i B d f cx e cy:=by
 rw [<- o,<- n,<- q,<- m];exact (((h.far c a _).far c a _).far c a _).far c a _
theorem GI (base kind E:Int) (i:Int) (h:Nat) (f j:Value) (w:World) (m:E≠0) (o:Hid (∀ g,Below w.heap.size w g->Calls Tryz.prog 37 #[.agg #[.int .i64 base,.int .i64 kind,f,j]] g fun e l=>e=.returned (.int .i64 E)/\Below g.heap.size g l)) :
  Calls Tryz.prog 18 #[.agg #[.int .i64 base,.int .i64 kind,f,j],.int .i64 i,.float .f64 h] w fun e l=>CvO w cv0 E e l:=by
 have M:(E !=0)=true:=bne_iff_ne.2 m;have D:=hideS m;clear m;have c:=hideS (iU w base kind (f) (j));obtain⟨y,b⟩:∃ y,(w.alloc (.cells #[.int .i64 base,.int .i64 kind,f,j] 26)).alloc ar=y:=⟨_,rfl⟩;rw [b] at c
 unfold ar at b
 obtain⟨s,x,u,r⟩:=c.out.k.t
 go_enter Tryz.func18,Tryz.ntmps18
 go_wp2_with fail
 clear b s x u r;refine (o.out _ c.out.bl).mono ?_
 rintro e G ⟨rfl,d⟩;have a:=hideS (c.out.step d);have H:=hideS c.out.sz;clear d o c;obtain⟨s,x,u,r⟩:=a.out.k.t;obtain⟨N,T,W,K,⟨I,P,L⟩,⟨U,X,O⟩,⟨J,S,R⟩,⟨Q,Y,V⟩,p,q⟩:=bD (w.heap.size+1) 0 0 (.slice none 0 0) (.slice none 0 0) G a.out.z;have n:=hideS (a.out.bl.trans (q.mono (by omega)))
 obtain⟨B,A,C,F⟩:=p.t;clear p q
 go_wp2_with fail
 refine bodyPost_ret (v:=.tuple #[.agg #[.int .i64 0,.int .i64 0,.slice none 0 0,.slice none 0 0],.int .i64 E]) (by simp [results,Tryz.results18,go_sem,B,A,C,F]) rfl ?_
 exact⟨fun _=>rfl,fun h=>absurd h D.out,n.out⟩
theorem GJ (base kind E:Int) (h:Nat) (f i:Value) (w:World) (l:E≠0) (n:Hid (∀ g,Below w.heap.size w g->Calls Tryz.prog 37 #[.agg #[.int .i64 base,.int .i64 kind,f,i]] g fun e j=>e=.returned (.int .i64 E)/\Below g.heap.size g j)) :
  Calls Tryz.prog 19 #[.agg #[.int .i64 base,.int .i64 kind,f,i],.float .f64 h] w fun e j=>CvO w cv0 E e j:=by
 have L:(E !=0)=true:=bne_iff_ne.2 l;have C:=hideS l;clear l;have c:=hideS (iU w base kind (f) (i));obtain⟨x,b⟩:∃ x,(w.alloc (.cells #[.int .i64 base,.int .i64 kind,f,i] 26)).alloc ar=x:=⟨_,rfl⟩;rw [b] at c
 unfold ar at b
 obtain⟨r,u,s,q⟩:=c.out.k.t
 go_enter Tryz.func19,Tryz.ntmps19
 go_wp2_with fail
 clear b r u s q;refine (n.out _ c.out.bl).mono ?_
 rintro e F ⟨rfl,d⟩;have a:=hideS (c.out.step d);have G:=hideS c.out.sz;clear d n c;obtain⟨r,u,s,q⟩:=a.out.k.t;obtain⟨M,S,V,J,⟨H,O,K⟩,⟨U,W,N⟩,⟨I,R,Q⟩,⟨P,X,T⟩,o,p⟩:=bD (w.heap.size+1) 0 0 (.slice none 0 0) (.slice none 0 0) F a.out.z;have m:=hideS (a.out.bl.trans (p.mono (by omega)))
 obtain⟨A,y,B,D⟩:=o.t;clear o p
 go_wp2_with fail
 refine bodyPost_ret (v:=.tuple #[.agg #[.int .i64 0,.int .i64 0,.slice none 0 0,.slice none 0 0],.int .i64 E]) (by simp [results,Tryz.results19,go_sem,A,y,B,D]) rfl ?_
 exact⟨fun _=>rfl,fun h=>absurd h C.out,m.out⟩
theorem GK (base kind i:Int) (h n m bd g o q j p:Nat) (w:World) (hi:¬ (0<=i/\i<(n:Int))) (u:Hid (∀ l,Below w.heap.size w l->Calls Tryz.prog 37 #[.agg #[.int .i64 base,.int .i64 kind,.slice (some ⟨bd,g,none⟩) n o,.slice (some ⟨q,j,none⟩) m p]] l fun e r=>e=.returned (.int .i64 0)/\Below l.heap.size l r)) :
  Calls Tryz.prog 18 #[.agg #[.int .i64 base,.int .i64 kind,.slice (some ⟨bd,g,none⟩) n o,.slice (some ⟨q,j,none⟩) m p],.int .i64 i,.float .f64 h] w fun e r=>CvO w cv0 1 e r:=by
 have B:Hid ((1:Int)≠0):=by show _≠_;decide
 have c:=hideS (iU w base kind (.slice (some ⟨bd,g,none⟩) n o) (.slice (some ⟨q,j,none⟩) m p));obtain⟨I,b⟩:∃ I,(w.alloc (.cells #[.int .i64 base,.int .i64 kind,.slice (some ⟨bd,g,none⟩) n o,.slice (some ⟨q,j,none⟩) m p] 26)).alloc ar=I:=⟨_,rfl⟩;rw [b] at c
 unfold ar at b
 obtain⟨F,H,G,E⟩:=c.out.k.t
 go_enter Tryz.func18,Tryz.ntmps18
 go_wp2_with fail
 clear b F H G E;refine (u.out _ c.out.bl).mono ?_
 rintro e J ⟨rfl,f⟩;have a:=hideS (c.out.step f);have M:=hideS c.out.sz;clear f u c;obtain⟨F,H,G,E⟩:=a.out.k.t;obtain⟨R,X,Z,P,⟨N,T,Q⟩,⟨Y,z1,S⟩,⟨O,W,V⟩,⟨U,z3,y3⟩,A,C⟩:=bD (w.heap.size+1) 0 0 (.slice none 0 0) (.slice none 0 0) J a.out.z;have d:=hideS (a.out.bl.trans (C.mono (by omega)))
 obtain⟨x,s,y,D⟩:=A.t;clear A C
 by_cases L:i<0
 ·clear hi
  go_wp2_with fail
  refine bodyPost_ret (v:=.tuple #[.agg #[.int .i64 0,.int .i64 0,.slice none 0 0,.slice none 0 0],.int .i64 1]) (by simp [results,Tryz.results18,go_sem,x,s,y,D]) rfl ?_
  exact⟨fun _=>rfl,fun h=>absurd h B.out,d.out⟩
 ·have K:(n:Int)<=i:=by omega
  clear hi
  go_wp2_with fail
  refine bodyPost_ret (v:=.tuple #[.agg #[.int .i64 0,.int .i64 0,.slice none 0 0,.slice none 0 0],.int .i64 1]) (by simp [results,Tryz.results18,go_sem,x,s,y,D]) rfl ?_
  exact⟨fun _=>rfl,fun h=>absurd h B.out,d.out⟩
theorem GL (base kind E:Int) (k h U n m bd f j q g l:Nat) (w:World) (Y:k<n) (x:E≠0) (C:Hid (∀ a,Below w.heap.size w a->Calls Tryz.prog 37 #[.agg #[.int .i64 base,.int .i64 kind,.slice (some ⟨bd,f,none⟩) n j,.slice (some ⟨q,g,none⟩) m l]] a fun e p=>e=.returned (.int .i64 0)/\Below a.heap.size a p)) (D:Hid (∀ a,Below w.heap.size w a->Calls Tryz.prog 38 #[.agg #[.int .i64 base,.int .i64 kind,.slice (some ⟨bd,f,none⟩) n j,.slice (some ⟨q,g,none⟩) m l],.int .i64 (k:Nat),.float .f64 h] a fun e p=>e=.returned (.tuple #[.float .f64 U,.int .i64 E])/\Below a.heap.size a p)) :
  Calls Tryz.prog 18 #[.agg #[.int .i64 base,.int .i64 kind,.slice (some ⟨bd,f,none⟩) n j,.slice (some ⟨q,g,none⟩) m l],.int .i64 (k:Nat),.float .f64 h] w fun e p=>CvO w cv0 E e p:=by
 have V:(E !=0)=true:=bne_iff_ne.2 x;have L:=hideS x;clear x;have d:=hideS (iU w base kind (.slice (some ⟨bd,f,none⟩) n j) (.slice (some ⟨q,g,none⟩) m l));obtain⟨H,c⟩:∃ H,(w.alloc (.cells #[.int .i64 base,.int .i64 kind,.slice (some ⟨bd,f,none⟩) n j,.slice (some ⟨q,g,none⟩) m l] 26)).alloc ar=H:=⟨_,rfl⟩;rw [c] at d
 unfold ar at c
 obtain⟨u,B,A,s⟩:=d.out.k.t
 go_enter Tryz.func18,Tryz.ntmps18
 go_wp2_with fail
 clear c u B A s;refine (C.out _ d.out.bl).mono ?_
 rintro e w3 ⟨rfl,r⟩;have b:=hideS (d.out.step r);have P:=hideS d.out.sz;clear r C d;obtain⟨u,B,A,s⟩:=b.out.k.t;have O:¬ (k:Int)<0:=by omega
 have g2:¬ (n:Int)<=(k:Int):=by omega
 go_wp2_with fail
 refine (D.out _ b.out.bl).mono ?_
 rintro e N ⟨rfl,i⟩;have o:=hideS (b.out.step i);clear i D u B A s;obtain⟨W,u2,u3,S,⟨Q,Z,T⟩,⟨e1,z1,X⟩,⟨R,z2,y2⟩,⟨e3,z3,y3⟩,F,G⟩:=bD (w.heap.size+1) 0 0 (.slice none 0 0) (.slice none 0 0) N o.out.z;have y:=hideS (o.out.bl.trans (G.mono (by omega)))
 obtain⟨J,I,K,M⟩:=F.t;clear F G
 go_wp2_with fail
 refine bodyPost_ret (v:=.tuple #[.agg #[.int .i64 0,.int .i64 0,.slice none 0 0,.slice none 0 0],.int .i64 E]) (by simp [results,Tryz.results18,go_sem,J,I,K,M]) rfl ?_
 exact⟨fun _=>rfl,fun h=>absurd h L.out,y.out⟩
theorem LC (c:Cv) (base kind:Int) (k h U n bd m B y r u:Nat) (w:World) (hk:k<n) (W:c.base=base) (S:c.kind=kind) (M:c.ds.length=n) (J:c.fs.length=n) (hU:U<18446744073709551616) (HC:Hid (∀ b,Below w.heap.size w b->Calls Tryz.prog 37 #[.agg #[.int .i64 base,.int .i64 kind,.slice (some ⟨bd,m,none⟩) n B,.slice (some ⟨y,r,none⟩) n u]] b fun e j=>e=.returned (.int .i64 0)/\Below b.heap.size b j)) (HF:Hid (∀ b,Below w.heap.size w b->Calls Tryz.prog 38 #[.agg #[.int .i64 base,.int .i64 kind,.slice (some ⟨bd,m,none⟩) n B,.slice (some ⟨y,r,none⟩) n u],.int .i64 (k:Nat),.float .f64 h] b fun e j=>e=.returned (.tuple #[.float .f64 U,.int .i64 0])/\Below b.heap.size b j)) (HO:Hid (∀ b,Below w.heap.size w b->Calls Tryz.prog 39 #[.agg #[.int .i64 base,.int .i64 kind,.slice (some ⟨bd,m,none⟩) n B,.slice (some ⟨y,r,none⟩) n u]] b fun e j=>(∃ g cx a cy,e=.returned (.agg #[.int .i64 base,.int .i64 kind,.slice (some ⟨g,0,none⟩) n cx,.slice (some ⟨a,0,none⟩) n cy])/\OwnC j b.heap.size c g cx a cy)/\Below b.heap.size b j)) :
  Calls Tryz.prog 18 #[.agg #[.int .i64 base,.int .i64 kind,.slice (some ⟨bd,m,none⟩) n B,.slice (some ⟨y,r,none⟩) n u],.int .i64 (k:Nat),.float .f64 h] w fun e j=>CvO w ⟨c.base,c.kind,c.ds,c.fs.set k U⟩ 0 e j:=by
 have ac:=hideS W;have ad:=hideS S;have al:=hideS M;have s:=hideS J;have HU:=hideS hU;clear W S M J hU;have C:=hideS (iU w base kind (.slice (some ⟨bd,m,none⟩) n B) (.slice (some ⟨y,r,none⟩) n u));obtain⟨w2,q⟩:∃ w2,(w.alloc (.cells #[.int .i64 base,.int .i64 kind,.slice (some ⟨bd,m,none⟩) n B,.slice (some ⟨y,r,none⟩) n u] 26)).alloc ar=w2:=⟨_,rfl⟩;rw [q] at C
 unfold ar at q
 obtain⟨G,X,L,F⟩:=C.out.k.t
 go_enter Tryz.func18,Tryz.ntmps18
 go_wp2_with fail
 clear q G X L F;refine (HC.out _ C.out.bl).mono ?_
 rintro e w3 ⟨rfl,H⟩;have f:=hideS (C.out.step H);have HS:=hideS C.out.sz;clear H HC C;obtain⟨G,X,L,F⟩:=f.out.k.t;have g1:¬ (k:Int)<0:=by omega
 have g2:¬ (n:Int)<=(k:Int):=by omega
 go_wp2_with fail
 refine (HF.out _ f.out.bl).mono ?_
 rintro e w4 ⟨rfl,I⟩;have d:=hideS (f.out.step I);clear I HF G X L F;obtain⟨G,X,L,F⟩:=d.out.k.t
 go_wp2_with fail
 refine (HO.out _ d.out.bl).mono ?_
 rintro e l ⟨⟨g,cx,a,cy,rfl,P⟩,E⟩;have R:=hideS (d.out.step E);have HL:=hideS P.lo;have HH:=hideS P.hi;have Z:=hideS P.ne;have i:=hideS d.out.sz;obtain⟨u1,u2,u3,V,⟨e0,z0,y0⟩,⟨e1,z1,y1⟩,⟨e2,z2,y2⟩,⟨e3,z3,y3⟩,hZ,hB⟩:=bD l.heap.size base kind (.slice (some ⟨g,0,none⟩) n cx) (.slice (some ⟨a,0,none⟩) n cy) (l.alloc ar) (heap_alloc_new _ _);have A:Below l.heap.size l V:=((Below.refl _ l).alloc (Nat.le_refl _) ar).trans hB;have o:=hideS (P.below A);have O:=hideS (R.out.step A);obtain⟨q1,q2⟩:=o.out.cell (k:=k) (by rw [s.out];exact hk)
 have N:=hideS (Eb o.out (by rw [s.out];exact hk) HU.out Z.out)
 have x:Hid (CpB w base kind (.slice (some ⟨bd,m,none⟩) n B) (.slice (some ⟨y,r,none⟩) n u) (V.setCell ⟨a,k,none⟩ (.float .f64 U))):=O.out.stay ((Below.refl a V).setCell (p:=⟨a,k,none⟩) (Nat.le_refl _) _) (by have:=HL.out.2;have:=i.out;omega)
 have D:Hid (BxK (V.setCell ⟨a,k,none⟩ (.float .f64 U)) l.heap.size base kind (.slice (some ⟨g,0,none⟩) n cx) (.slice (some ⟨a,0,none⟩) n cy)):=⟨by
  rw [Below.heap_setCell _ ⟨a,k,none⟩ _ _ (by show l.heap.size≠a;have:=HH.out.2;omega)];exact hZ.blk⟩
 obtain⟨w6,T⟩:∃ w6,l.alloc ar=w6:=⟨_,rfl⟩;rw [T] at e0 z0 y0
 unfold ar at T
 obtain⟨s0,s1,s2,s3⟩:=hZ.t;obtain⟨w7,ab⟩:∃ w7,V.setCell ⟨a,k,none⟩ (.float .f64 U)=w7:=⟨_,rfl⟩;rw [ab] at N x D
 obtain⟨x0,x1,x2,x3⟩:=D.out.t;obtain⟨v1,v2,v3,v4,⟨f0,a0,b0⟩,⟨f1,a1,b1⟩,⟨f2,a2,as⟩,⟨f3,a3,b3⟩,K,Q⟩:=bD (w.heap.size+1) base kind (.slice (some ⟨g,0,none⟩) n cx) (.slice (some ⟨a,0,none⟩) n cy) w7 x.out.z;have Y:=hideS (uA N.out (by have:=HL.out.1;have:=i.out;omega) (by have:=HL.out.2;have:=i.out;omega) f0 f1 f2 f3)
 have ai:=hideS (x.out.bl.trans (Q.mono (by omega)))
 obtain⟨r0,r1,r2,r3⟩:=K.t;have am:=bJ;have g3:(0:Int)<=(k:Int):=by omega
 have g4:(k:Int)<(n:Int):=by omega
 clear P E HO G X L F hZ hB A K Q R O d f o
 go_wp2_with fail
 refine bodyPost_ret (v:=.tuple #[.agg #[.int .i64 base,.int .i64 kind,.slice (some ⟨g,0,none⟩) n cx,.slice (some ⟨a,0,none⟩) n cy],.int .i64 0]) (by simp [results,Tryz.results18,go_sem,r0,r1,r2,r3]) rfl ?_
 refine⟨fun h=>absurd rfl h,fun _=>⟨g,cx,a,cy,?_,Y.out.mono (by have:=i.out;omega)⟩,ai.out⟩
 show Ending.returned _=Ending.returned (.tuple #[.agg #[.int .i64 c.base,.int .i64 c.kind,.slice (some ⟨g,0,none⟩) c.ds.length cx,.slice (some ⟨a,0,none⟩) (c.fs.set k U).length cy],.int .i64 0])
 rw [List.length_set,ac.out,ad.out,al.out,s.out]
structure PaI (w:World) (base kind:Int) (vd vf:Value) (B D:Nat) (n gx cx gy cy:Nat) (c:Cv) (h k:Nat) (wr:World):Prop where
 cp:CpB w base kind vd vf wr
 bx:BxK wr B base kind (.slice (some ⟨gx,0,none⟩) n cx) (.slice (some ⟨gy,0,none⟩) n cy)
 own:OwnC wr D ⟨c.base,c.kind,c.ds,c.parL h k⟩ gx cx gy cy
theorem PaI.step {w wr f:World} {base kind:Int} {b d:Value} {B D n g cx e cy:Nat} {c:Cv} {h k:Nat} (H:PaI w base kind b d B D n g cx e cy c h k wr) (a:Below wr.heap.size wr f):PaI w base kind b d B D n g cx e cy c h k f:=⟨H.cp.step a,H.bx.step a,H.own.below a⟩
theorem PaI.put {w wr:World} {base kind:Int} {b d:Value} {B D n f cx a cy:Nat} {c:Cv} {h k:Nat} (H:PaI w base kind b d B D n f cx a cy c h k wr) (j:k<c.fs.length) (i:c.bm k h<18446744073709551616) (l:w.heap.size+2<=D) (g:a≠B):PaI w base kind b d B D n f cx a cy c h (k+1) (wr.setCell ⟨a,k,none⟩ (.float .f64 (c.bm k h))):=by
 refine⟨H.cp.stay ((Below.refl a wr).setCell (p:=⟨a,k,none⟩) (Nat.le_refl _) _) (by have:=H.own.lo.2;omega),⟨?_⟩,Eb H.own (by show k<(c.parL h k).length;rw [eJ];exact j) i H.own.ne⟩
 rw [Below.heap_setCell _ ⟨a,k,none⟩ _ _ (by show B≠a;exact fun e=>g e.symm)];exact H.bx.blk
theorem GM (c:Cv) (base kind:Int) (h n bd r A y s u:Nat) (w:World) (hn:n<=255) (al:c.base=base) (ad:c.kind=kind) (X:c.ds.length=n) (V:c.fs.length=n) (hU:∀ k<n,bmE c k h=0->bmV c k h=c.bm k h/\c.bm k h<18446744073709551616) (R:∀ k<n,bmE c k h≠0->bmE c k h=91)
  (HC:Hid (∀ a,Below w.heap.size w a->Calls Tryz.prog 37 #[.agg #[.int .i64 base,.int .i64 kind,.slice (some ⟨bd,r,none⟩) n A,.slice (some ⟨y,s,none⟩) n u]] a fun e q=>e=.returned (.int .i64 0)/\Below a.heap.size a q))
  (HF:Hid (∀ k<n,∀ a,Below w.heap.size w a->Calls Tryz.prog 38 #[.agg #[.int .i64 base,.int .i64 kind,.slice (some ⟨bd,r,none⟩) n A,.slice (some ⟨y,s,none⟩) n u],.int .i64 (k:Nat),.float .f64 h] a fun e q=>e=.returned (.tuple #[.float .f64 (bmV c k h),.int .i64 (bmE c k h)])/\Below a.heap.size a q))
  (HO:Hid (∀ a,Below w.heap.size w a->Calls Tryz.prog 39 #[.agg #[.int .i64 base,.int .i64 kind,.slice (some ⟨bd,r,none⟩) n A,.slice (some ⟨y,s,none⟩) n u]] a fun e q=>(∃ m cx l cy,e=.returned (.agg #[.int .i64 base,.int .i64 kind,.slice (some ⟨m,0,none⟩) n cx,.slice (some ⟨l,0,none⟩) n cy])/\OwnC q a.heap.size c m cx l cy)/\Below a.heap.size a q)) :
  Calls Tryz.prog 19 #[.agg #[.int .i64 base,.int .i64 kind,.slice (some ⟨bd,r,none⟩) n A,.slice (some ⟨y,s,none⟩) n u],.float .f64 h] w fun e q=>((∃ k<n,bmE c k h≠0)/\CvO w cv0 91 e q)\/((∀ k<n,bmE c k h=0)/\CvO w (c.para h) 0 e q):=by
 have as:=hideS al;have bb:=hideS ad;have ai:=hideS X;have G:=hideS V;have HU:=hideS hU;have bc:=hideS R;clear al ad X V hU R;have T:=hideS (iU w base kind (.slice (some ⟨bd,r,none⟩) n A) (.slice (some ⟨y,s,none⟩) n u));obtain⟨w2,E⟩:∃ w2,(w.alloc (.cells #[.int .i64 base,.int .i64 kind,.slice (some ⟨bd,r,none⟩) n A,.slice (some ⟨y,s,none⟩) n u] 26)).alloc ar=w2:=⟨_,rfl⟩;rw [E] at T
 unfold ar at E
 obtain⟨F,M,H,C⟩:=T.out.k.t
 go_enter Tryz.func19,Tryz.ntmps19
 go_wp2_with fail
 clear E F M H C;refine (HC.out _ T.out.bl).mono ?_
 rintro e w3 ⟨rfl,Q⟩;have g:=hideS (T.out.step Q);have HS:=hideS g.out.sz;clear Q HC T;obtain⟨F,M,H,C⟩:=g.out.k.t
 go_wp2_with fail
 refine (HO.out _ g.out.bl).mono ?_
 rintro e p ⟨⟨m,cx,l,cy,rfl,I⟩,N⟩;have ab:=hideS (g.out.step N);have HL:=hideS I.lo;have HH:=hideS I.hi;obtain⟨u1,u2,u3,u4,⟨e0,z0,y0⟩,⟨e1,z1,y1⟩,⟨e2,z2,y2⟩,⟨e3,z3,y3⟩,S,hB⟩:=bD p.heap.size base kind (.slice (some ⟨m,0,none⟩) n cx) (.slice (some ⟨l,0,none⟩) n cy) (p.alloc ar) (heap_alloc_new _ _);have K:Below p.heap.size p u4:=((Below.refl _ p).alloc (Nat.le_refl _) ar).trans hB;have f:Hid (PaI w base kind (.slice (some ⟨bd,r,none⟩) n A) (.slice (some ⟨y,s,none⟩) n u) p.heap.size w3.heap.size n m cx l cy c h 0 u4):=⟨ab.out.step K,S,I.below K⟩;have bh:Hid (m≠p.heap.size/\l≠p.heap.size):=⟨Nat.ne_of_lt HH.out.1,Nat.ne_of_lt HH.out.2⟩;obtain⟨w6,L⟩:∃ w6,p.alloc ar=w6:=⟨_,rfl⟩;rw [L] at e0 z0 y0
 unfold ar at L
 clear F M H C;obtain⟨F,M,H,C⟩:=f.out.cp.k.t;clear I N HO S hB K ab g HH
 go_wp2_with fail
 clear L e0 z0 y0 e1 z1 y1 e2 z2 y2 e3 z3 y3 F M H C;generalize p.heap.size=B at *
 generalize w3.heap.size=D at *
 go_loopw [8,9,10,22] (fun _ _ _ i wr=>∃ k:Nat,k<=n/\i=.int .i64 k/\Hid (∀ j<k,bmE c j h=0)/\Hid (PaI w base kind (.slice (some ⟨bd,r,none⟩) n A) (.slice (some ⟨y,s,none⟩) n u) B D n m cx l cy c h k wr)) (fun _ _ _ i _=>n - (intOf i).toNat)
 case atStart=>exact⟨0,Nat.zero_le _,rfl,fun j hj=>by omega,f⟩
 case round=>
  clear f;obtain⟨k,hk,rfl,P,f⟩:=hrel
  by_cases b:k<n
  ·obtain⟨F,M,H,C⟩:=f.out.cp.k.t;have O:=hideS (HF.out k b)
   go_wp2_with fail
   refine (O.out _ f.out.cp.bl).mono ?_
   rintro e w7 ⟨rfl,ac⟩;have o:=hideS (f.out.step ac);clear ac O f F M H C
   by_cases x:bmE c k h=0
   ·obtain⟨hV,hU⟩:=HU.out k b x;have HP:=hideS (o.out.put (by rw [G.out];exact b) hU HS.out bh.out.2)
    have ba:Hid (∀ j<k+1,bmE c j h=0):=fun j hj=>by
     rcases Nat.lt_or_eq_of_le (Nat.le_of_lt_succ hj) with d | d
     ·exact P.out j d
     ·rw [d];exact x
    obtain⟨q1,q2⟩:=o.out.own.cell (k:=k) (by show k<(c.parL h k).length;rw [eJ,G.out];exact b)
    obtain⟨s0,s1,s2,s3⟩:=o.out.bx.t;have bi:=bJ;have g3:(0:Int)<=(k:Int):=by omega
    have g4:(k:Int)<(n:Int):=by omega
    rw [x,hV];clear x hV hU;generalize c.bm k h=U at *
    go_wp2_with fail
    go_roundw
    case rel=>exact⟨k+1,by omega,by simp,ba,HP⟩
    case measure=>simp [intOf];omega
   ·have dE:(bmE c k h !=0)=true:=bne_iff_ne.2 x;obtain⟨u1,u2,u3,u4,⟨e0,z0,y0⟩,⟨e1,z1,y1⟩,⟨e2,z2,y2⟩,⟨e3,z3,y3⟩,S,hB⟩:=bD (w.heap.size+1) 0 0 (.slice none 0 0) (.slice none 0 0) w7 o.out.cp.z;have J:=hideS (o.out.cp.bl.trans (hB.mono (by omega)))
    obtain⟨s0,s1,s2,s3⟩:=S.t;have HE:Hid (∃ k<n,bmE c k h≠0):=⟨k,b,x⟩;have Y:=bc.out k b x;rw [Y] at dE ⊢
    clear S hB x Y
    go_wp2_with fail
    refine bodyPost_ret (v:=.tuple #[.agg #[.int .i64 0,.int .i64 0,.slice none 0 0,.slice none 0 0],.int .i64 91]) (by simp [results,Tryz.results19,go_sem,s0,s1,s2,s3]) rfl ?_
    exact Or.inl ⟨HE.out,fun _=>rfl,fun h=>absurd h (by decide),J.out⟩
  ·obtain rfl:k=n:=by omega
   obtain⟨s0,s1,s2,s3⟩:=f.out.bx.t;obtain⟨v1,v2,v3,v4,⟨f0,a0,b0⟩,⟨f1,a1,b1⟩,⟨f2,a2,bk⟩,⟨f3,a3,b3⟩,W,Z⟩:=bD (w.heap.size+1) base kind (.slice (some ⟨m,0,none⟩) k cx) (.slice (some ⟨l,0,none⟩) k cy) wr f.out.cp.z;have am:=hideS (uA f.out.own (by have:=HL.out.1;have:=HS.out;omega) (by have:=HL.out.2;have:=HS.out;omega) f0 f1 f2 f3)
   have J:=hideS (f.out.cp.bl.trans (Z.mono (by omega)))
   obtain⟨r0,r1,r2,r3⟩:=W.t;clear W Z
   go_wp2_with fail
   refine bodyPost_ret (v:=.tuple #[.agg #[.int .i64 base,.int .i64 kind,.slice (some ⟨m,0,none⟩) k cx,.slice (some ⟨l,0,none⟩) k cy],.int .i64 0]) (by simp [results,Tryz.results19,go_sem,r0,r1,r2,r3]) rfl ?_
   have I:=am.out;rw [<- ai.out] at I
   refine Or.inr ⟨P.out,fun h=>absurd rfl h,fun _=>⟨m,cx,l,cy,?_,I.mono (by have:=HS.out;omega)⟩,J.out⟩
   show Ending.returned _=Ending.returned (.tuple #[.agg #[.int .i64 c.base,.int .i64 c.kind,.slice (some ⟨m,0,none⟩) c.ds.length cx,.slice (some ⟨l,0,none⟩) (c.parL h c.ds.length).length cy],.int .i64 0])
   rw [eJ,as.out,bb.out,ai.out,G.out]
theorem LD {c:Cv} {k h:Nat} (e:c.Ok) (d:c.Fit) (f:k<c.ds.length) (b:bmE c k h=0):bmB c k h=true/\bmV c k h=c.bm k h/\c.bm k h<18446744073709551616:=by
 have a:bmB c k h=true:=by
  cases a:bmB c k h with
  | true=>rfl
  | false=>unfold bmE at b;rw [a] at b;exact absurd b (by decide)
 refine⟨a,by unfold bmV;rw [if_pos a],(uv e d f (bt (rL a).2)).2.2.1⟩
theorem bmE_cases (c:Cv) (k h:Nat):(bmB c k h=true/\bmE c k h=0)\/(bmB c k h=false/\bmE c k h=91):=by
 unfold bmE;cases bmB c k h
 ·exact Or.inr ⟨rfl,rfl⟩
 ·exact Or.inl ⟨rfl,rfl⟩
theorem rP (c:Cv) (bd d n k g o:Nat) (w:World) (h:c.Ok) (p:TFl w (some ⟨bd,d,none⟩) (some ⟨k,g,none⟩) bd d k g c.ds c.fs):∀ a,Below w.heap.size w a->Calls Tryz.prog 39 #[.agg #[.int .i64 c.base,.int .i64 c.kind,.slice (some ⟨bd,d,none⟩) c.ds.length n,.slice (some ⟨k,g,none⟩) c.ds.length o]] a fun e m=>(∃ j cx i cy,e=.returned (.agg #[.int .i64 c.base,.int .i64 c.kind,.slice (some ⟨j,0,none⟩) c.ds.length cx,.slice (some ⟨i,0,none⟩) c.ds.length cy])/\OwnC m a.heap.size c j cx i cy)/\Below a.heap.size a m:=fun a s=>by
 have l:=h.len;have u:=h.lo;have b:=p.below s;refine (CB c.base c.kind bd d n k g o c.ds.length c.ds c.fs a b.x (by rw [<- l];exact b.y) rfl l h.lo h.hi).mono ?_
 rintro e m ⟨j,cx,i,cy,rfl,r,q,t⟩;exact⟨⟨j,cx,i,cy,rfl,r,by rw [l];exact q,by omega,by omega,p.f⟩,t⟩
theorem uB (c d:Cv) (i:Int) (h:Nat) (E:Int) (A v:Option Addr) (bd g m o j n:Nat) (w:World) (K:BmpR c i h d E) (D:h<18446744073709551616) (a:TFl w A v bd g o j c.ds c.fs) :
  Calls Tryz.prog 18 #[.agg #[.int .i64 c.base,.int .i64 c.kind,.slice A c.ds.length m,.slice v c.fs.length n],.int .i64 i,.float .f64 h] w fun e I=>CvO w d E e I:=by
 have u:∀ E,c.Chk E->∀ l,Below w.heap.size w l->_:=fun E B l (b:Below w.heap.size w l)=>dG c.base c.kind A v bd g m o j n c.ds c.fs l (a.below b) (E:=E) B
 cases K with
 | chk E J B=>exact GI c.base c.kind E i h _ _ w B (u E J)
 | arg ok hi=>
  have r:=ok.len;have G:=ok.lo;have s:=a.x.at_ (by omega)
  have t:=a.y.at_ (by omega)
  subst s t;exact GK c.base c.kind i h c.ds.length c.fs.length bd g m o j n w hi (u 0 (.ok ok))
 | val ok k p e b=>
  have r:=ok.len;have s:=a.x.at_ (by omega)
  have t:=a.y.at_ (by omega)
  subst s t e;have z:bmE c k h=91:=by unfold bmE;rw [b];rfl
  refine GL c.base c.kind 91 k h (bmV c k h) c.ds.length c.fs.length bd g m o j n w p (by decide) (u 0 (.ok ok)) (fun l b=>?_)
  have:=kY c k h _ _ bd g m o j n l ok p D (a.below b);rw [z] at this;exact this
 | ok ok k p e b=>
  have r:=ok.len;have s:=a.x.at_ (by omega)
  have t:=a.y.at_ (by omega)
  subst s t e;have C:bmE c k h=0:=by unfold bmE;rw [b];rfl
  obtain⟨_,H,F⟩:=LD ok a.f p C;have q:=u 0 (.ok ok);rw [r] at q ⊢
  refine LC c c.base c.kind k h (c.bm k h) c.ds.length bd g m o j n w p rfl rfl rfl r F q (fun l b=>?_) (rP c bd g m o j n w ok a)
  have:=kY c k h _ _ bd g m o j n l ok p D (a.below b);rw [C,H,r] at this;exact this
theorem uC (c d:Cv) (h:Nat) (E:Int) (z v:Option Addr) (bd r m u s n:Nat) (w:World) (I:ParR c h d E) (D:h<18446744073709551616) (p:TFl w z v bd r u s c.ds c.fs) :
  Calls Tryz.prog 19 #[.agg #[.int .i64 c.base,.int .i64 c.kind,.slice z c.ds.length m,.slice v c.fs.length n],.float .f64 h] w fun e o=>CvO w d E e o:=by
 have C:∀ E,c.Chk E->∀ l,Below w.heap.size w l->_:=fun E j l (i:Below w.heap.size w l)=>dG c.base c.kind z v bd r m u s n c.ds c.fs l (p.below i) (E:=E) j
 have q:∀ ok:c.Ok,Calls Tryz.prog 19 #[.agg #[.int .i64 c.base,.int .i64 c.kind,.slice z c.ds.length m,.slice v c.fs.length n],.float .f64 h] w fun e o=>((∃ k<c.ds.length,bmE c k h≠0)/\CvO w cv0 91 e o)\/((∀ k<c.ds.length,bmE c k h=0)/\CvO w (c.para h) 0 e o):=fun ok=>by
  have B:=ok.len;have F:=ok.lo;have H:=p.x.at_ (by omega)
  have J:=p.y.at_ (by omega)
  subst H J;have t:=C 0 (.ok ok);rw [B] at t ⊢
  refine GM c c.base c.kind h c.ds.length bd r m u s n w ok.hi rfl rfl rfl B (fun k g j=>(LD ok p.f g j).2) (fun k g j=>?_) t (fun k g l i=>?_) (rP c bd r m u s n w ok p)
  ·rcases bmE_cases c k h with a | a
   ·exact absurd a.2 j
   ·exact a.2
  ·have:=kY c k h _ _ bd r m u s n l ok g D (p.below i);rw [B] at this;exact this
 cases I with
 | chk E G j=>exact GJ c.base c.kind E h _ _ w j (C E G)
 | val ok k g i=>
  refine (q ok).mono fun e o b=>?_
  rcases b with b | b
  ·exact b.2
  ·have:=b.1 k g;unfold bmE at this
   rw [i] at this
   exact absurd this (by decide)
 | ok ok i=>
  refine (q ok).mono fun e o b=>?_
  rcases b with⟨⟨k,g,A⟩,_⟩| b
  ·exfalso
   unfold bmE at A
   rw [i k g] at A
   exact A rfl
  ·exact b.2
structure YrD (P:Int) (T:Nat) (np nq:Bool) (X Y:Nat):Prop where
 w1:∀ wx,Calls Tryz.prog 62 #[.int .i64 P] wx fun e w'=>∃ v,e=.returned (.agg #[.bool np,v,.int .i64 0])/\DN w' v X/\Below wx.heap.size wx w'
 w2:∀ wx,Calls Tryz.prog 62 #[.int .i64 365] wx fun e w'=>∃ v,e=.returned (.agg #[.bool nq,v,.int .i64 0])/\DN w' v Y/\Below wx.heap.size wx w'
 w3:∀ vx vy wx,DN wx vx X->DN wx vy Y->Calls Tryz.prog 61 #[.agg #[.bool np,vx,.int .i64 0],.agg #[.bool nq,vy,.int .i64 0]] wx fun e w'=>e=.returned (.int .u64 (T:Int))/\Below wx.heap.size wx w'
theorem Qp {base d:Int} (i:base<d) (j:d - base<=109572):∃ h f X Y,YrD (d - base) (rkT base d) h f X Y:=
 ⟨_,_,_,_,fun a=>jR _ a (by omega) (by omega),fun a=>jR 365 a (by omega) (by omega),fun c b a e g=>by
  have:=Gt (d - base) 365 (decide ((365:Int)<0)) c b a e g (by omega) (by omega) (by omega) (by omega)
  rw [Ql (by omega) (by omega)] at this
  exact this⟩
structure FcD (T h f m fm x u:Nat):Prop where
 m1:∀ wx,Calls Tryz.prog 63 #[.int .u64 (h:Int),.int .u64 (T:Int)] wx fun e w'=>e=.returned (.int .u64 (m:Int))/\Below wx.heap.size wx w'
 m2:∀ wx,Calls Tryz.prog 34 #[.int .u64 (m:Int)] wx fun e w'=>e=.returned (.int .u64 (fm:Int))/\wx=w'
 m3:∀ wx,Calls Tryz.prog 64 #[.int .u64 (fm:Int)] wx fun e w'=>e=.returned (.int .u64 (x:Int))/\Below wx.heap.size wx w'
 m4:∀ wx,Calls Tryz.prog 63 #[.int .u64 (f:Int),.int .u64 (x:Int)] wx fun e w'=>e=.returned (.int .u64 (u:Int))/\Below wx.heap.size wx w'
theorem Qq {c:Cv} {k h:Nat} (e:c.Ok) (g:c.Fit) (f:k<c.ds.length) (l:h<18446744073709551616) (hn:ag h):∃ m i x,FcD (rkT c.base (c.ds.getD k 0)) h (c.fs.getD k 0) m i x (c.bm k h):=by
 obtain⟨p,u⟩:=e.day f;have v:=e.b0;obtain⟨r,t⟩:=ph p (by omega)
 obtain⟨m,j,b,s,n⟩:=Ct (base:=c.base) (d:=c.ds.getD k 0) hn r;obtain⟨_,o,_,_,_⟩:=uv e g f hn;have q:=g k (by rw [e.len];exact f)
 refine⟨m,flipN m,rkX c.base (c.ds.getD k 0) h,fun a=>?_,fun a=>dQ m m _ a rfl (af b) rfl,fun a=>?_,fun a=>?_⟩
 ·have:=cX h (rkT c.base (c.ds.getD k 0)) _ _ a rfl rfl (af l) (af t);rw [j,ao] at this
  exact this
 ·have:=(ck (bM b).1).doc a;rw [s,ao] at this
  exact this
 ·have:=cX (c.fs.getD k 0) (rkX c.base (c.ds.getD k 0) h) _ _ a rfl rfl (af q) (af (by omega))
  rw [o,ao] at this
  exact this
noncomputable def bqV (c:Cv) (i j h k:Nat):Nat:=if i<=k/\k<j then c.bm k h else c.fs.getD k 0
noncomputable def bqL (c:Cv) (i j h n:Nat):List Nat:=(List.range n).map (bqV c i j h)
theorem LE (c:Cv) (i j h k:Nat):bqL c i j h (k+1)=bqL c i j h k++[bqV c i j h k]:=by
 unfold bqL;rw [List.range_succ,List.map_append];rfl
theorem cA (c:Cv) (i j h k:Nat):(bqL c i j h k).length=k:=by unfold bqL;simp
theorem Qr (w:World) (base kind:Int) (c g:Value):OfC w base kind c g (.slice none 0 0) (((w.alloc (.cells #[.int .i64 base,.int .i64 kind,c,g] 39)).alloc (.cells #[.int .i64 0,.int .i64 0,.slice none 0 0,.slice none 0 0] 39)).alloc (.cells #[.int .i64 base,.int .i64 kind,c,.slice none 0 0] 39)):=by
 have h:∀ (w:World) o,Below w.heap.size w (w.alloc o):=fun w o=>(Below.refl _ _).alloc (Nat.le_refl _) _
 generalize f:w.alloc (.cells #[.int .i64 base,.int .i64 kind,c,g] 39)=e;have m:e.heap.size=w.heap.size+1:=by rw [<- f];simp
 generalize b:e.alloc (.cells #[.int .i64 0,.int .i64 0,.slice none 0 0,.slice none 0 0] 39)=a;have n:a.heap.size=w.heap.size+2:=by rw [<- b];simp [m]
 have c1:∀ j,e.cell? ⟨w.heap.size,j,none⟩=(#[.int .i64 base,.int .i64 kind,c,g]:Array Value)[j]? :=fun j=>by rw [<- f];exact cT w _ _ j
 have c2:∀ j,a.cell? ⟨w.heap.size+1,j,none⟩=(#[.int .i64 0,.int .i64 0,.slice none 0 0,.slice none 0 0]:Array Value)[j]? :=fun j=>by rw [<- b,<- m];exact cT e _ _ j
 have c3:∀ j,(a.alloc (.cells #[.int .i64 base,.int .i64 kind,c,.slice none 0 0] 39)).cell? ⟨w.heap.size+2,j,none⟩=(#[.int .i64 base,.int .i64 kind,c,.slice none 0 0]:Array Value)[j]? :=fun j=>by rw [<- n];exact cT a _ _ j
 have l:∀ j,a.cell? ⟨w.heap.size,j,none⟩=e.cell? ⟨w.heap.size,j,none⟩:=fun j=>by rw [<- b];exact (h e _).cell (p:=⟨w.heap.size,j,none⟩) (by show w.heap.size<e.heap.size;omega)
 have d:∀ k<2,∀ j o,(a.alloc o).cell? ⟨w.heap.size+k,j,none⟩=a.cell? ⟨w.heap.size+k,j,none⟩:=fun k t j o=>(h a o).cell (p:=⟨w.heap.size+k,j,none⟩) (by show w.heap.size+k<a.heap.size;omega)
 have i:∀ j o,(a.alloc o).frozen? ⟨w.heap.size+1,j,none⟩=false:=fun j o=>by
  rw [(h a o).frozen (p:=⟨w.heap.size+1,j,none⟩) (by show w.heap.size+1<a.heap.size;omega),<- b,<- m]
  exact World.frozen?_alloc_new _ _ _ _
 have s:Below w.heap.size w (a.alloc (.cells #[.int .i64 base,.int .i64 kind,c,.slice none 0 0] 39)):=by
  have r:Below w.heap.size w e:=by rw [<- f];exact h w _
  have q:Below w.heap.size w a:=by rw [<- b];exact r.alloc r.size _
  exact q.alloc q.size _
 exact⟨((d 0 (by omega) 0 _).trans (l 0)).trans (c1 0),((d 0 (by omega) 1 _).trans (l 1)).trans (c1 1),((d 0 (by omega) 2 _).trans (l 2)).trans (c1 2),((d 0 (by omega) 3 _).trans (l 3)).trans (c1 3),(d 1 (by omega) 0 _).trans (c2 0),(d 1 (by omega) 1 _).trans (c2 1),(d 1 (by omega) 2 _).trans (c2 2),(d 1 (by omega) 3 _).trans (c2 3),i 0 _,i 1 _,i 2 _,i 3 _,c3 0,c3 1,c3 2,c3 3,by rw [<- n];exact World.frozen?_alloc_new _ _ _ _,s,by simp;omega⟩
structure BqO (w:World) (base kind:Int) (px:Option Addr) (n cx:Nat) (L:List Nat) (bad:Bool) (e:Ending) (w':World):Prop where
 no:bad=true->e=.returned (.tuple #[.agg #[.int .i64 0,.int .i64 0,.slice none 0 0,.slice none 0 0],.int .i64 91])
 yes:bad=false->∃ v,e=.returned (.tuple #[.agg #[.int .i64 base,.int .i64 kind,.slice px n cx,v],.int .i64 0])/\w'.ownsRow w.heap.size 41 1 v n (L.map uV)
 bl:Below w.heap.size w w'
theorem OfC.step {w wr c:World} {base kind:Int} {a d b:Value} (h:OfC w base kind a d b wr) (e:Below wr.heap.size wr c):OfC w base kind a d b c:=h.stay (e.mono h.sz)
theorem OfC.drewN {w wr:World} {base kind:Int} {a c b:Value} (h:OfC w base kind a c b wr) (q:Nat):OfC w base kind a c b (wr.drewN q):=h.stay ⟨rfl,rfl,rfl,Nat.le_refl _,fun _ _=>rfl⟩
theorem ew (c:Cv) (i j h n K:Nat) (V py:Option Addr) (Z W cx b2 oy cy:Nat) (w:World) (ok:c.Ok) (A:CSrcD w V py Z W b2 oy c.ds c.fs) (hv:c.Fit) (hn:c.ds.length=n) (hh:h<18446744073709551616) (hf:aE (h:Int)=true) (hK:K<=n) (O:∀ t<K,i<=t->t<j->bmB c t h=true) (am:K<n->i<=K/\K<j/\bmB c K h=false) :
  Calls Tryz.prog 43 #[.agg #[.int .i64 c.base,.int .i64 c.kind,.slice V n cx,.slice py n cy],.int .i64 i,.int .i64 j,.int .u64 (h:Int)] w fun e w'=>BqO w c.base c.kind V n cx (bqL c i j h n) (decide (K<n)) e w':=by
 have dy:n<=255:=by rw [<- hn];exact ok.hi
 have bo:Hid (∀ k<n,c.base<c.ds.getD k 0/\c.ds.getD k 0<=109572/\0<=c.base):=fun k hk=>⟨(ok.day (k:=k) (by omega)).1,(ok.day (k:=k) (by omega)).2,ok.b0⟩
 have bi:Hid (∀ k<n,∃ m fm x,FcD (rkT c.base (c.ds.getD k 0)) h (c.fs.getD k 0) m fm x (c.bm k h)):=fun k hk=>Qq ok hv (by omega) hh (bt hf)
 have db:Hid (∀ k<n,c.bm k h<18446744073709551616/\ah (c.bm k h:Nat)=false):=fun k hk=>by
  obtain⟨_,_,a,b,_⟩:=uv (k:=k) ok hv (by omega) (bt hf)
  exact⟨a,b⟩
 have cc:Hid (∀ k,bmB c k h=rkB (c.bm k h)):=fun k=>by unfold bmB;rw [hf];exact Bool.true_and _
 have dn:=ok.len;have Hx:Hid (c.ds.length=n):=hn;have Hy:Hid (c.fs.length=n):=by show _=_;omega
 have ci:=hideS O;have da:=hideS am;clear ok hv hn hf O am dn hh;obtain⟨base,G⟩:∃ b,c.base=b:=⟨_,rfl⟩;obtain⟨kind,N⟩:∃ b,c.kind=b:=⟨_,rfl⟩;rw [G] at bo bi
 rw [G,N];clear G N;have HY:=hideS A;have y:=hideS (Qr w base kind (.slice V n cx) (.slice py n cy));have p0:∀ o,((w.alloc (.cells #[.int .i64 base,.int .i64 kind,(.slice V n cx),.slice py n cy] 39)).alloc o).cell? ⟨w.heap.size,0,none⟩=some (.int .i64 base):=fun o=>kU w _ _ o 0
 have p1:∀ o,((w.alloc (.cells #[.int .i64 base,.int .i64 kind,(.slice V n cx),.slice py n cy] 39)).alloc o).cell? ⟨w.heap.size,1,none⟩=some (.int .i64 kind):=fun o=>kU w _ _ o 1
 have p2:∀ o,((w.alloc (.cells #[.int .i64 base,.int .i64 kind,(.slice V n cx),.slice py n cy] 39)).alloc o).cell? ⟨w.heap.size,2,none⟩=some (.slice V n cx):=fun o=>kU w _ _ o 2
 clear A
 go_enter Tryz.func43,Tryz.ntmps43
 go_wp2_with fail
 clear p0 p1 p2
 go_loopw [11,12,13] (fun a _ _ s=>∃ k:Nat,k<=K/\a=.int .i64 k/\Hid (∃ v,s.ownsRow (w.heap.size+3) 41 1 v k ((bqL c i j h k).map uV)/\OfC w base kind (.slice V n cx) (.slice py n cy) v s)) (fun a _ _ _=>n - (intOf a).toNat)
 case atStart=>exact⟨0,Nat.zero_le _,rfl,_,qe _ _,y.out⟩
 case round=>
  clear y;obtain⟨k,hk,rfl,HH⟩:=hrel;obtain⟨v,ho,hb⟩:=HH.out;obtain⟨q0,g0,z,rfl,_,_,_,_⟩:=bq ho (cA _ _ _ _ _);have HO:=hideS ho;have y:=hideS hb;clear ho hb HH;have t3:=y.out.t3
  by_cases F:k<n
  ·obtain rfl:=HY.out.f.at_ (by rw [Hy.out];omega)
   obtain rfl:=HY.out.d.at_ (by rw [Hx.out];omega)
   have dx:s.cell? ⟨b2,oy+k,none⟩=some (.int .u64 (c.fs.getD k 0:Nat)):=(y.out.bl.cell (p:=⟨b2,oy+k,none⟩) (HY.out.f.lt (by rw [Hy.out];omega))).trans (HY.out.f.cell k (by rw [Hy.out];exact F))
   have ct:s.cell? ⟨Z,W+k,none⟩=some (.int .i64 (c.ds.getD k 0)):=(y.out.bl.cell (p:=⟨Z,W+k,none⟩) (HY.out.d.lt (by rw [Hx.out];omega))).trans (HY.out.d.cell k (by rw [Hx.out];exact F))
   have ab:Hid (∀ wx,Below w.heap.size w wx->wx.cell? ⟨Z,W+k,none⟩=some (.int .i64 (c.ds.getD k 0))):=fun wx hb=>(hb.cell (p:=⟨Z,W+k,none⟩) (HY.out.d.lt (by rw [Hx.out];omega))).trans (HY.out.d.cell k (by rw [Hx.out];exact F))
   obtain⟨d0,d1,d2⟩:=bo.out k F;obtain⟨m,fm,x,hF⟩:=bi.out k F;obtain⟨np,nq,X,Y,hP⟩:=Qp d0 (by omega)
   have HF:=hideS hF;have HP:=hideS hP;have C:=hideS (LE c i j h k);have hV:bqV c i j h k=if i<=k/\k<j then c.bm k h else c.fs.getD k 0:=rfl
   obtain⟨ul,un⟩:=db.out k F;have l:=cc.out k;unfold rkB at l
   have ai:ltB 0 (c.bm k h:Nat)=decide (0<ae (c.bm k h:Nat)):=by rw [aA (by decide) un,show ae 0=0 by decide]
   rw [<- ai] at l
   have bb:=hideS fun wx=>bK (c.bm k h:Nat) wx (af ul)
   have bh:=hideS fun wx=>gF 0 (c.bm k h:Nat) wx (by unfold U64;omega) (af ul)
   have I:=ci.out k;have J:=da.out;clear hF hP ai un;obtain⟨P,cv⟩:∃ P,c.ds.getD k 0 - base=P:=⟨_,rfl⟩;have cr:IntKind.i64.wrap (c.ds.getD k 0 - base)=P:=by rw [IntKind.wrap_i64];omega
   rw [cv] at HP
   generalize aE (c.bm k h:Nat)=b1 at *
   generalize ltB 0 (c.bm k h:Nat)=dd at *
   generalize rkT base (c.ds.getD k 0)=T at *
   generalize c.bm k h=u at *
   generalize c.fs.getD k 0=f at *
   generalize c.ds.getD k 0=D at *
   have l1:(0:Int)<=(k:Int):=Int.natCast_nonneg _;have l2:(k:Int)<(n:Int):=by omega
   clear cv d0 d1 d2
   by_cases U:i<=k/\k<j
   ·rw [if_pos U] at hV
    rw [hV] at C
    have l3:(i:Int)<=(k:Int):=by omega
    have l4:(k:Int)<(j:Int):=by omega
    obtain⟨df,dc⟩:=U;clear hV
    go_wp2_with fail
    have cl:=hideS (And.intro y.out.t0 (And.intro y.out.t2 (ab.out _ y.out.bl)));clear t3 dx ct
    go_region_held3 (fun w'=>w'.cell? ⟨w.heap.size,0,none⟩=some (.int .i64 base)/\w'.cell? ⟨w.heap.size,2,none⟩=some (.slice (some ⟨Z,W,none⟩) n cx)/\w'.cell? ⟨Z,W+k,none⟩=some (.int .i64 D)) (first | exact cl.out | exact cm.out | exact ca.out | exact di.out | go_keep) (first | ((go_at_call_of 62 (Value.int IntKind.i64 P);refine (HP.out.w1 _).mono ?_;rintro e w2 ⟨vx,rfl,ba,bs⟩;obtain⟨p1,n1,c1,rfl⟩:=dz ba;have R:=hideS (y.out.step ((Below.refl s.heap.size s).drew.trans bs));have cp:=hideS (aq HO.out ((Below.refl s.heap.size s).drew.trans bs));have cm:=hideS (And.intro R.out.t0 (And.intro R.out.t2 (ab.out _ R.out.bl)));have cu:=hideS ba;clear bs ba)) | ((go_at_call_of 62 (Value.int IntKind.i64 365);refine (HP.out.w2 _).mono ?_;rintro e w3 ⟨vy,rfl,bk,ac⟩;obtain⟨p2,n2,c2,rfl⟩:=dz bk;have Q:=hideS (R.out.step ac);have cd:=hideS (aq cp.out ac);have ca:=hideS (And.intro Q.out.t0 (And.intro Q.out.t2 (ab.out _ Q.out.bl)));have ad:=hideS (cu.out.below ac);have al:=hideS bk;clear ac bk)) | ((go_at_call 61;refine (HP.out.w3 _ _ _ ad.out al.out).mono ?_;rintro e w4 ⟨rfl,bc⟩;have M:=hideS (Q.out.step bc);have bz:=hideS (aq cd.out bc);have di:=hideS (And.intro M.out.t0 (And.intro M.out.t2 (ab.out _ M.out.bl)));clear bc)))
    all_goals
     clear y R Q HO cp cd cl cm ca di HP cu ad al cr
     go_wp2_with fail
     refine (HF.out.m1 _).mono ?_
     rintro e w5 ⟨rfl,as⟩;have cq:=hideS (M.out.step as);have cf:=hideS (aq bz.out as);clear as M bz
     go_wp2_with fail
     refine (HF.out.m2 _).mono ?_
     rintro e w6 ⟨rfl,rfl⟩
     go_wp2_with fail
     refine (HF.out.m3 _).mono ?_
     rintro e w7 ⟨rfl,br⟩;have cs:=hideS (cq.out.step br);have dg:=hideS (aq cf.out br);clear br cq cf
     go_wp2_with fail
     refine (HF.out.m4 _).mono ?_
     rintro e w8 ⟨rfl,bv⟩;have H:=hideS (cs.out.step bv);have dE:=hideS (aq dg.out bv);clear bv cs dg HF
     go_wp2_with fail
     refine (turned (bb.out _)).mono ?_
     rintro e w9 ⟨rfl,rfl⟩;cases b1
     ·have l:bmB c k h=false:=l;obtain rfl:k=K:=Nat.le_antisymm hk (Nat.le_of_not_lt fun e=>by have:=I e df dc;rw [l] at this;cases this)
      clear I J l C;obtain⟨_,_,_,_,d0,d1,d2,d3,e0,e1,e2,e3,_,_,_,_,_,_,_⟩:=H.out
      go_wp2_with fail
      refine bodyPost_ret (v:=.tuple #[.agg #[.int .i64 0,.int .i64 0,.slice none 0 0,.slice none 0 0],.int .i64 91]) (by simp [results,Tryz.results43,go_sem,d0,d1,d2,d3]) rfl ?_
      have A:∀ j,w.heap.size<=(⟨w.heap.size+1,j,none⟩:Addr).block:=fun j=>by show w.heap.size<=w.heap.size+1;omega
      have S:Below w.heap.size w ((((w8.setCell ⟨w.heap.size+1,0,none⟩ (.int .i64 0)).setCell ⟨w.heap.size+1,1,none⟩ (.int .i64 0)).setCell ⟨w.heap.size+1,2,none⟩ (.slice none 0 0)).setCell ⟨w.heap.size+1,3,none⟩ (.slice none 0 0)):=(((H.out.bl.setCell (A 0) _).setCell (A 1) _).setCell (A 2) _).setCell (A 3) _;exact⟨fun _=>rfl,fun e=>(by first | exact absurd F (of_decide_eq_false e) | cases e),S⟩
     ·have l:bmB c k h=dd:=l
      go_wp2_with fail
      refine (turned (bh.out _)).mono ?_
      rintro e w9 ⟨rfl,rfl⟩;cases dd
      ·skip
       obtain rfl:k=K:=Nat.le_antisymm hk (Nat.le_of_not_lt fun e=>by have:=I e df dc;rw [l] at this;cases this)
       clear I J l C;obtain⟨_,_,_,_,d0,d1,d2,d3,e0,e1,e2,e3,_,_,_,_,_,_,_⟩:=H.out
       go_wp2_with fail
       refine bodyPost_ret (v:=.tuple #[.agg #[.int .i64 0,.int .i64 0,.slice none 0 0,.slice none 0 0],.int .i64 91]) (by simp [results,Tryz.results43,go_sem,d0,d1,d2,d3]) rfl ?_
       have A:∀ j,w.heap.size<=(⟨w.heap.size+1,j,none⟩:Addr).block:=fun j=>by show w.heap.size<=w.heap.size+1;omega
       have S:Below w.heap.size w ((((w8.setCell ⟨w.heap.size+1,0,none⟩ (.int .i64 0)).setCell ⟨w.heap.size+1,1,none⟩ (.int .i64 0)).setCell ⟨w.heap.size+1,2,none⟩ (.slice none 0 0)).setCell ⟨w.heap.size+1,3,none⟩ (.slice none 0 0)):=(((H.out.bl.setCell (A 0) _).setCell (A 1) _).setCell (A 2) _).setCell (A 3) _;exact⟨fun _=>rfl,fun e=>(by first | exact absurd F (of_decide_eq_false e) | cases e),S⟩
      ·have dk:k<K:=Nat.lt_of_le_of_ne hk (fun e=>by obtain⟨_,_,a3⟩:=J (by omega);rw [<- e,l] at a3;cases a3)
       have HN:=C;clear I J l C bb bh ul;have E:Hid (∀ o,(w8.alloc o).ownsRow (w.heap.size+3) 41 1 (.slice q0 k z) k ((bqL c i j h k).map uV)):=fun o=>aq dE.out ((Below.refl _ w8).alloc (Nat.le_refl _) o)
       have g:Hid (∀ o,OfC w base kind (.slice (some ⟨Z,W,none⟩) n cx) (.slice (some ⟨b2,oy,none⟩) n cy) (.slice q0 k z) (w8.alloc o)):=fun o=>H.out.step ((Below.refl _ w8).alloc (Nat.le_refl _) o)
       have o3:=H.out.o3;have y3:=(g.out (.cells #[.int .u64 (u:Int)] 41)).o3
       go_wp2_with (at_builtin;refine aO _ rfl (.tmp 69) (.tmp 71) rfl (w.heap.size+3) _ k (bqL c i j h k) rfl (E.out _) w8.heap.size u rfl (by simp) (by omega) (g.out (.cells #[.int .u64 (u:Int)] 41)).sz ?_;intro v6 w6 q B;obtain⟨q6,g6,c6,rfl,_,_,_,_⟩:=bq q (by rw [List.length_append,cA];rfl);have r:=hideS ((g.out _).stay (be (E.out _) B (g.out (.cells #[.int .u64 (u:Int)] 41)).sz));have L:=hideS q;have c2:=r.out.o3;have c3:=r.out.f3;clear q B o3 y3)
       go_roundw
       case rel=>exact⟨k+1,by omega,by simp,_,by rw [HN.out];exact bw L.out (by omega) _,r.out.put _⟩
       case measure=>simp [intOf];omega
   ·rw [if_neg U] at hV
    rw [hV] at C
    have HN:=C;have dk:k<K:=by
     apply Nat.lt_of_le_of_ne hk;intro e;obtain⟨a1,a2,_⟩:=J (by omega)
     omega
    clear C HF HP bb bh l I J cr ct ul;have l5:(i:Int)<=(k:Int)->¬ (k:Int)<(j:Int):=by omega
    by_cases l3:(i:Int)<=(k:Int)
    ·have l4:=l5 l3;clear l5 U;have E:Hid (∀ o,(s.alloc o).ownsRow (w.heap.size+3) 41 1 (.slice q0 k z) k ((bqL c i j h k).map uV)):=fun o=>aq HO.out ((Below.refl _ s).alloc (Nat.le_refl _) o)
     have g:Hid (∀ o,OfC w base kind (.slice (some ⟨Z,W,none⟩) n cx) (.slice (some ⟨b2,oy,none⟩) n cy) (.slice q0 k z) (s.alloc o)):=fun o=>y.out.step ((Below.refl _ s).alloc (Nat.le_refl _) o)
     have o3:=y.out.o3;have y3:=(g.out (.cells #[.int .u64 (f:Int)] 41)).o3
     go_wp2_with (at_builtin;refine aO _ rfl (.tmp 69) (.tmp 71) rfl (w.heap.size+3) _ k (bqL c i j h k) rfl (E.out _) s.heap.size f rfl (by simp) (by omega) (g.out (.cells #[.int .u64 (f:Int)] 41)).sz ?_;intro v6 w6 q B;obtain⟨q6,g6,c6,rfl,_,_,_,_⟩:=bq q (by rw [List.length_append,cA];rfl);have r:=hideS ((g.out _).stay (be (E.out _) B (g.out (.cells #[.int .u64 (f:Int)] 41)).sz));have L:=hideS q;have c2:=r.out.o3;have c3:=r.out.f3;clear q B o3 y3)
     go_roundw
     case rel=>exact⟨k+1,by omega,by simp,_,by rw [HN.out];exact bw L.out (by omega) _,r.out.put _⟩
     case measure=>simp [intOf];omega
    ·have l6:(k:Int)<(i:Int):=by omega
     clear l5 U l3;have E:Hid (∀ o,(s.alloc o).ownsRow (w.heap.size+3) 41 1 (.slice q0 k z) k ((bqL c i j h k).map uV)):=fun o=>aq HO.out ((Below.refl _ s).alloc (Nat.le_refl _) o)
     have g:Hid (∀ o,OfC w base kind (.slice (some ⟨Z,W,none⟩) n cx) (.slice (some ⟨b2,oy,none⟩) n cy) (.slice q0 k z) (s.alloc o)):=fun o=>y.out.step ((Below.refl _ s).alloc (Nat.le_refl _) o)
     have o3:=y.out.o3;have y3:=(g.out (.cells #[.int .u64 (f:Int)] 41)).o3
     go_wp2_with (at_builtin;refine aO _ rfl (.tmp 69) (.tmp 71) rfl (w.heap.size+3) _ k (bqL c i j h k) rfl (E.out _) s.heap.size f rfl (by simp) (by omega) (g.out (.cells #[.int .u64 (f:Int)] 41)).sz ?_;intro v6 w6 q B;obtain⟨q6,g6,c6,rfl,_,_,_,_⟩:=bq q (by rw [List.length_append,cA];rfl);have r:=hideS ((g.out _).stay (be (E.out _) B (g.out (.cells #[.int .u64 (f:Int)] 41)).sz));have L:=hideS q;have c2:=r.out.o3;have c3:=r.out.f3;clear q B o3 y3)
     go_roundw
     case rel=>exact⟨k+1,by omega,by simp,_,by rw [HN.out];exact bw L.out (by omega) _,r.out.put _⟩
     case measure=>simp [intOf];omega
  ·obtain rfl:k=n:=by omega
   have dp:¬ K<k:=by omega
   clear ci da bo bi db cc;have dU:¬ (k:Int)<(k:Int):=by omega
   have dF:=y.out.sz;obtain⟨t0,t1,t2,_,d0,d1,d2,d3,e0,e1,e2,e3,o0,o1,o2,o3,f3,_,_⟩:=y.out
   go_wp2_with fail
   refine bodyPost_ret (v:=.tuple #[.agg #[.int .i64 base,.int .i64 kind,.slice V k cx,.slice q0 k z],.int .i64 0]) (by simp [results,Tryz.results43,go_sem,d0,d1,d2,d3]) rfl ?_
   have A:∀ j,w.heap.size<=(⟨w.heap.size+1,j,none⟩:Addr).block:=fun j=>by show w.heap.size<=w.heap.size+1;omega
   have S:Below w.heap.size w ((((s.setCell ⟨w.heap.size+1,0,none⟩ (.int .i64 base)).setCell ⟨w.heap.size+1,1,none⟩ (.int .i64 kind)).setCell ⟨w.heap.size+1,2,none⟩ (.slice V k cx)).setCell ⟨w.heap.size+1,3,none⟩ (.slice q0 k z)):=(((y.out.bl.setCell (A 0) _).setCell (A 1) _).setCell (A 2) _).setCell (A 3) _;exact⟨fun e=>(by first | exact absurd (of_decide_eq_true e) dp | cases e),fun _=>⟨_,rfl,gr (bw (bw (bw (bw HO.out (by omega) _) (by omega) _) (by omega) _) (by omega) _) (by omega)⟩,S⟩
end Go.Proofs.YtfdddijdjpijbaaGreat
