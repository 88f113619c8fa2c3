/-  -/
import Derived.Test.YtfdddijdjpijbaaGreatHbc
import Derived.Test.YtfdddijdjpijbaaGreatHbk
import Derived.Test.YtfdddijdjpijbaaGreatHaz
import Derived.Test.YtfdddijdjpijbaaGreatHbi
import Derived.Test.YtfdddijdjpijbaaGreatHar
import Derived.Test.YtfdddijdjpijbaaGreatHba
set_option maxHeartbeats 6400000
namespace Go.Proofs.YtfdddijdjpijbaaGreat
open Go.RowKit
def wAt (a:List Int) (ys:List Nat):Nat->A.St
 | 0=>⟨0,0⟩
 | k+1=>(wAt a ys k).merge (A.bn (fi (a.getD k 0)) (ys.getD k 0))
theorem jh (T ox cx Q S cy n d:Nat) (g:List Int) (ys:List Nat) (w:World) (hX:VSrc w (some ⟨T,ox,none⟩) T ox n (xV g)) (hY:VSrc w (some ⟨Q,S,none⟩) Q S n (yV ys)) (hn:1<=n) (cc:n<=10) (hw:∀ i<n,-9007199254740992<=g.getD i 0/\g.getD i 0<=9007199254740992) (hy:∀ i<n,ys.getD i 0<18446744073709551616) (hd:1<=d) (bo:d<=9223372036854775807) :
  Calls Tryz.prog 146 #[.slice (some ⟨T,ox,none⟩) n cx,.slice (some ⟨Q,S,none⟩) n cy,.int .i64 (d:Int)] w fun e w'=>e=.returned (.int .u64 (aR (wAt g ys n) d:Int))/\Below w.heap.size w w':=by
 have HX:=hideS hX;have HY:=hideS hY;have HW:=hideS hw;have bi:=hideS hy;have H0:=hideS (IA w);obtain⟨ab,z⟩:∃ ab:Int,(aR (wAt g ys n) d:Int)=ab:=⟨_,rfl⟩;have ak:=hideS z;rw [z];clear hX hY hw hy z
 go_enter Tryz.func146,Tryz.ntmps146
 go_wp2_with fail
 go_loopw [8] (fun i wr=>∃ k:Nat,k<=n/\i=.int .i64 k/\Hid (Held w wr w.heap.size (wAt g ys k) k)) (fun i _=>n - (intOf i).toNat)
 case atStart=>exact⟨0,Nat.zero_le _,rfl,H0⟩
 case round=>
  clear H0;obtain⟨k,hk,rfl,X⟩:=hrel;obtain⟨⟨neg,va,M,ee,G,q,L,u⟩,f,J,h⟩:=X.out;have t:=dX G
  by_cases D:k<n
  ·have bz:wr.cell? ⟨T,ox+k,none⟩=some (.int .i64 (g.getD k 0)):=(f.cell (p:=⟨T,ox+k,none⟩) (HX.out.lt (by omega))).trans (HX.out.cell k D)
   have bc:wr.cell? ⟨Q,S+k,none⟩=some (.int .u64 ((ys.getD k 0:Nat):Int)):=(f.cell (p:=⟨Q,S+k,none⟩) (HY.out.lt (by omega))).trans (HY.out.cell k D)
   have ai:Q<wr.heap.size:=Nat.lt_of_lt_of_le (HY.out.lt (by omega)) f.size
   have am:T<wr.heap.size:=Nat.lt_of_lt_of_le (HX.out.lt (by omega)) f.size
   have O:=HW.out k D;have I:=bi.out k D;have HI:=hideS fun wx=>cV (g.getD k 0) wx (by omega) (by omega)
   have H:=kn O.1 O.2;obtain⟨x,P⟩:∃ x,fi (g.getD k 0)=x:=⟨_,rfl⟩;obtain⟨Y,E⟩:∃ Y:Int,Y=(x:Int):=⟨_,rfl⟩;obtain⟨y,C⟩:∃ y,ys.getD k 0=y:=⟨_,rfl⟩;obtain⟨yi,F⟩:∃ yi:Int,yi=(y:Int):=⟨_,rfl⟩;have ba:Hid (wAt g ys (k+1)=(wAt g ys k).merge (A.bn x y)):=by show _=_;rw [<- P,<- C];rfl
   rw [P] at HI H
   rw [C] at I
   rw [C,<- F] at bc
   rw [<- E] at HI
   have bk:=hideS E;have br:=hideS F;have HU:Hid (U64 Y):=by show U64 _;rw [E];exact aU H
   have bs:Hid (U64 yi):=by show U64 _;rw [F];exact aU I
   generalize g.getD k 0=wk at *
   obtain⟨a,bb⟩:∃ a,wAt g ys k=a:=⟨_,rfl⟩;rw [bb] at u t G ba
   obtain⟨W,R,U,rfl⟩:=q.shape;have bh:Hid (∀ m,Below wr.heap.size wr m->Calls Tryz.prog 67 #[AV (a.s:Int) neg (.slice W R U) ee,.int .u64 Y,.int .u64 yi] m (cj m (.slice W R U) M (wAt g ys (k+1)) (k+1))):=fun m j=>by
    have:=Ob a.s neg (.slice W R U) M ee a.N k x y Y yi m (q.below j) u (oE (by omega)) HU.out bs.out bk br
    rw [IB,<- ba.out] at this
    exact this
   have Z:Hid (∀ m,Below wr.heap.size wr m->∀ V r,cj m (.slice W R U) M (wAt g ys (k+1)) (k+1) r V->∃ v p l c e',r=.returned (AV ((wAt g ys (k+1)).s:Int) v (.slice p l c) e')/\Held4 V w.heap.size (a.s:Int) neg (.slice W R U) ee/\Held w (put4 V w.heap.size ((wAt g ys (k+1)).s:Int) v (.slice p l c) e') w.heap.size (wAt g ys (k+1)) (k+1)):=fun m j V r o=>
    xE (wr:=m) (by rw [j.block w.heap.size h];exact G) L (f.trans (j.mono f.size)) J (Nat.lt_of_lt_of_le h j.size) o
   have q0:=t.c0;have q1:=t.c1;have q2:=t.c2;have q3:=t.c3;have HZ:=hideS (And.intro h (And.intro am ai));have g3:(0:Int)<=(k:Int):=by omega
   have g4:(k:Int)<(n:Int):=by omega
   clear P E bb q u G L J h t X C F O I H ai am f
   go_wp2_with fail
   go_region_with (first | ((go_at_call 101;refine (HI.out _).mono ?_;rintro r m ⟨rfl,j⟩;have b:Below wr.heap.size wr m:=((Below.refl wr.heap.size wr).drew.trans j);have K:=hideS b;have c0:=(b.cell (p:=⟨w.heap.size,0,none⟩) HZ.out.1).trans q0;have c1:=(b.cell (p:=⟨w.heap.size,1,none⟩) HZ.out.1).trans q1;have c2:=(b.cell (p:=⟨w.heap.size,2,none⟩) HZ.out.1).trans q2;have c3:=(b.cell (p:=⟨w.heap.size,3,none⟩) HZ.out.1).trans q3;have cd:=(b.cell (p:=⟨Q,S+k,none⟩) HZ.out.2.2).trans bc;have ad:=hideS (bh.out m b);clear j b)) | ((go_at_call 67;refine ad.out.mono ?_;intro r V o;obtain⟨v,p4,l4,c4,e4,rfl,B,hH⟩:=Z.out m K.out V r o;have X:=hideS hH;have k0:=B.c0;have k1:=B.c1;have k2:=B.c2;have k3:=B.c3;have l0:=B.f0;have l1:=B.f1;have l2:=B.f2;have l3:=B.f3;clear o hH B)))
   all_goals
    go_wp2_with fail
    go_roundw
    case rel=>exact⟨k+1,by omega,by simp,X⟩
    case measure=>simp [intOf];omega
  ·obtain rfl:k=n:=by omega
   obtain⟨W,R,U,rfl⟩:=q.shape;have q0:=t.c0;have q1:=t.c1;have q2:=t.c2;have q3:=t.c3;have HV:=hideS (OK _ neg _ M ee _ k d wr q u (oE (by omega)) hd bo)
   rw [IB,ak.out] at HV
   have al:=hideS f;have bv:¬ (k:Int)<(k:Int):=by omega
   clear q u G L f J h t X
   go_wp2_with fail
   refine HV.out.mono ?_
   rintro r m ⟨rfl,G⟩;have K:=hideS (al.out.trans (G.mono al.out.size));clear G
   go_wp2_with fail
   go_ret
   exact⟨rfl,K.out⟩
def lH (w:World) (kind:Int) (c d:Value) (x k E:Int):Prop:=∀ a,Below w.heap.size w a->Calls Tryz.prog 145 #[.agg #[.int .i64 kind,c,d],.int .i64 x] a fun e b=>e=.returned (.tuple #[.int .i64 k,.int .i64 E])/\Below a.heap.size a b
theorem OL (kind x k E:Int) (a c:Value) (w:World) (d:E≠0) (H:Hid (lH w kind a c x k E)) :
  Calls Tryz.prog 107 #[.agg #[.int .i64 kind,a,c],.int .i64 x] w fun e g=>e=.returned (.tuple #[.int .u64 0,.int .i64 E])/\Below w.heap.size w g:=by
 have f:=hideS (bQ w kind a c);have h:(E !=0)=true:=bne_iff_ne.2 d;unfold lH at H
 clear d
 go_enter Tryz.func107,Tryz.ntmps107
 go_wp2_with (go_at_call 145;refine (H.out _ f.out.bl).mono ?_;rintro e i ⟨rfl,b⟩)
 go_ret2
 exact⟨rfl,(f.out.step b).bl⟩
theorem Mt (kind x:Int) (d f cx i l cy n k:Nat) (j:Int) (y0:Nat) (w:World)
  (o:∀ c,Below w.heap.size w c->c.cell? ⟨d,f+k,none⟩=some (.int .i64 j)/\c.cell? ⟨i,l+k,none⟩=some (.int .u64 (y0:Int)))
  (u:k<n) (_:n<=256) (h:j=x\/(j≠x/\kind=1)) (H:Hid (lH w kind (.slice (some ⟨d,f,none⟩) n cx) (.slice (some ⟨i,l,none⟩) n cy) x (k:Int) 0)) :
  Calls Tryz.prog 107 #[.agg #[.int .i64 kind,.slice (some ⟨d,f,none⟩) n cx,.slice (some ⟨i,l,none⟩) n cy],.int .i64 x] w fun e c=>e=.returned (.tuple #[.int .u64 (y0:Int),.int .i64 0])/\Below w.heap.size w c:=by
 have g:=hideS (bQ w kind (.slice (some ⟨d,f,none⟩) n cx) (.slice (some ⟨i,l,none⟩) n cy));unfold lH at H
 have p:=hideS o;have y:(0:Int)<=(k:Int):=by omega
 have z:(k:Int)<(n:Int):=by omega
 clear o;rcases h with h | ⟨h,t⟩
 ·subst h
  go_enter Tryz.func107,Tryz.ntmps107
  go_wp2_with fail
  refine (H.out _ g.out.bl).mono ?_
  rintro e m ⟨rfl,b⟩;have a:=hideS (g.out.step b);clear b;obtain⟨r,q,s,_,_⟩:=a.out;obtain⟨c0,c1⟩:=p.out m a.out.bl
  go_wp2_with fail
  go_ret2
  exact⟨rfl,a.out.bl⟩
 ·subst t;have v:(j==x)=false:=beq_false_of_ne h
  go_enter Tryz.func107,Tryz.ntmps107
  go_wp2_with fail
  refine (H.out _ g.out.bl).mono ?_
  rintro e m ⟨rfl,b⟩;have a:=hideS (g.out.step b);clear b;obtain⟨r,q,s,_,_⟩:=a.out;obtain⟨c0,c1⟩:=p.out m a.out.bl
  go_wp2_with fail
  go_ret2
  exact⟨rfl,a.out.bl⟩
theorem lI (w:World) (a b:Int):VSrc (w.alloc (.cells #[.int .i64 a,.int .i64 b] 3)) (some ⟨w.heap.size,0,none⟩) w.heap.size 0 2 (xV [a,b]):=
 ⟨fun _=>rfl,fun _=>by simp,fun j c=>by
  rcases (show j=0\/j=1 by omega) with rfl | rfl
  ·simp [xV]
  ·simp [xV]⟩
structure ARd (w:World) (B:Nat) (kind:Int) (vx vy:Value) (bx ox b2 oy k:Nat) (x0 x1:Int) (y0 y1:Nat):Prop where
 t0:w.cell? ⟨B,0,none⟩=some (.int .i64 kind)
 t1:w.cell? ⟨B,1,none⟩=some vx
 t2:w.cell? ⟨B,2,none⟩=some vy
 a0:w.cell? ⟨bx,ox+k,none⟩=some (.int .i64 x0)
 a1:w.cell? ⟨bx,ox+(k+1),none⟩=some (.int .i64 x1)
 b0:w.cell? ⟨b2,oy+k,none⟩=some (.int .u64 (y0:Int))
 b1:w.cell? ⟨b2,oy+(k+1),none⟩=some (.int .u64 (y1:Int))
 ly:b2<w.heap.size
theorem TBox.drewN {w wr:World} {kind:Int} {a b:Value} (h:TBox w kind a b wr) (m:Nat):TBox w kind a b (wr.drewN m):=⟨h.t0,h.t1,h.t2,⟨h.bl.os,h.bl.tape,h.bl.output,h.bl.size,h.bl.block⟩,h.lt⟩
theorem OM (x:Int) (h r cx b a cy n k D:Nat) (g y i:Int) (y0 y1:Nat) (w:World)
  (Q:∀ s,TBox w 2 (.slice (some ⟨h,r,none⟩) n cx) (.slice (some ⟨b,a,none⟩) n cy) s->ARd s w.heap.size 2 (.slice (some ⟨h,r,none⟩) n cx) (.slice (some ⟨b,a,none⟩) n cy) h r b a k g y y0 y1)
  (hk:k+1<n) (hn:n<=256) (ab:n<=cy) (U:cy<=9223372036854775807) (h0:0<=g) (h1:y<=109572) (hD:y - g=(D:Int)) (hi:x - g=i) (X:0<i) (Z:i<(D:Int)) (z:y0<18446744073709551616) (t:y1<18446744073709551616) (H:Hid (lH w 2 (.slice (some ⟨h,r,none⟩) n cx) (.slice (some ⟨b,a,none⟩) n cy) x (k:Int) 0)) :
  Calls Tryz.prog 107 #[.agg #[.int .i64 2,.slice (some ⟨h,r,none⟩) n cx,.slice (some ⟨b,a,none⟩) n cy],.int .i64 x] w fun e s=>e=.returned (.tuple #[.int .u64 (aR (wAt [(D:Int) - i,i] [y0,y1] 2) D:Int),.int .i64 0])/\Below w.heap.size w s:=by
 have K:=hideS (bQ w 2 (.slice (some ⟨h,r,none⟩) n cx) (.slice (some ⟨b,a,none⟩) n cy));unfold lH at H
 have T:=hideS Q;have A:Hid (∀ c,b<c.heap.size->c.cell? ⟨b,a+k,none⟩=some (.int .u64 (y0:Int))->c.cell? ⟨b,a+(k+1),none⟩=some (.int .u64 (y1:Int))->Calls Tryz.prog 146 #[.slice (some ⟨c.heap.size,0,none⟩) 2 2,.slice (some ⟨b,a+k,none⟩) 2 (cy - k),.int .i64 (D:Int)] (c.alloc (.cells #[.int .i64 ((D:Int) - i),.int .i64 i] 3)) fun e s=>e=.returned (.int .u64 (aR (wAt [(D:Int) - i,i] [y0,y1] 2) D:Int))/\Below c.heap.size c s):=fun c E c0 c1=>by
  have d:Below c.heap.size c (c.alloc (.cells #[.int .i64 ((D:Int) - i),.int .i64 i] 3)):=(Below.refl _ _).alloc (Nat.le_refl _) _;refine (jh c.heap.size 0 2 b (a+k) (cy - k) 2 D [(D:Int) - i,i] [y0,y1] _ (lI c _ _) ⟨fun _=>rfl,fun _=>Nat.lt_of_lt_of_le E d.size,fun j S=>?_⟩ (by omega) (by omega) (fun j S=>?_) (fun j S=>?_) (by omega) (by omega)).mono ?_
  ·rcases (show j=0\/j=1 by omega) with rfl | rfl
   ·exact (d.cell (p:=⟨b,a+k,none⟩) E).trans c0
   ·rw [show a+k+1=a+(k+1) by omega];exact (d.cell (p:=⟨b,a+(k+1),none⟩) E).trans c1
  ·rcases (show j=0\/j=1 by omega) with rfl | rfl
   ·show -9007199254740992<=(D:Int) - i/\_;exact⟨by omega,by show (D:Int) - i<=_;omega⟩
   ·show -9007199254740992<=i/\i<=_;omega
  ·rcases (show j=0\/j=1 by omega) with rfl | rfl
   ·exact z
   ·exact t
  ·rintro e s ⟨rfl,Y⟩;exact⟨rfl,d.trans (Y.mono d.size)⟩
 generalize aR (wAt [(D:Int) - i,i] [y0,y1] 2) D=R at *
 have f1:IntKind.i64.wrap ((k:Int)+1)=(k:Int)+1:=by rw [IntKind.wrap_i64];omega
 have f2:IntKind.i64.wrap (y - g)=y - g:=by rw [IntKind.wrap_i64];omega
 have g1:(0:Int)<=(k:Int)+1:=by omega
 have g2:(k:Int)+1<(n:Int):=by omega
 have g3:(0:Int)<=(k:Int):=by omega
 have g4:(k:Int)<(n:Int):=by omega
 have hx:(g==x)=false:=beq_false_of_ne (by omega)
 have V:(D:Int)<=109572:=by omega
 clear Q z t
 go_enter Tryz.func107,Tryz.ntmps107
 go_wp2_with fail
 refine (H.out _ K.out.bl).mono ?_
 rintro e N ⟨rfl,u⟩;have l:=hideS (K.out.step u);clear u;have hA:=T.out N l.out;obtain⟨P,M,J,O,L,F,G,B⟩:=hA
 go_wp2_with fail
 go_quiet (fail)
 obtain⟨f,m⟩:∃ f,N.drewN nq=f:=⟨_,rfl⟩;rw [m];have q:Hid (TBox w 2 (.slice (some ⟨h,r,none⟩) n cx) (.slice (some ⟨b,a,none⟩) n cy) f):=by show TBox _ _ _ _ _;rw [<- m];exact l.out.drewN nq
 clear m P M J O L F G B l;obtain⟨P,M,J,O,L,F,G,B⟩:=T.out f q.out;have W:w.heap.size<f.heap.size:=q.out.lt;have c2:∀ o,(f.alloc o).cell? ⟨w.heap.size,2,none⟩=some (.slice (some ⟨b,a,none⟩) n cy):=fun o=>(((Below.refl f.heap.size f).alloc (Nat.le_refl _) o).cell (p:=⟨w.heap.size,2,none⟩) W).trans J
 have I:=hideS (A.out f B F G);have f3:IntKind.i64.wrap (x - g)=x - g:=by rw [IntKind.wrap_i64];omega
 have f4:IntKind.i64.wrap ((k:Int)+2)=(k:Int)+2:=by rw [IntKind.wrap_i64];omega
 have g7:(k:Int)+2<=(n:Int):=by omega
 have g8:(k:Int)<=(k:Int)+2:=by omega
 have g9:(k:Int)+2<=(cy:Int):=by omega
 go_wp2_with fail
 refine I.out.mono ?_
 rintro e w2 ⟨rfl,v⟩;have C:=hideS (q.out.step v);clear v
 go_wp2_with fail
 go_ret2
 exact⟨rfl,C.out.bl⟩
theorem sc {a b A B:Int} (f:0<=a) (e:a<=A) (c:0<=b) (d:b<=B):0<=a*b/\a*b<=A*B:=⟨Int.mul_nonneg f c,Int.mul_le_mul e d c (by omega)⟩
theorem IG (w:World) (a b c d:Int):VSrc (w.alloc (.cells #[.int .i64 a,.int .i64 b,.int .i64 c,.int .i64 d] 3)) (some ⟨w.heap.size,0,none⟩) w.heap.size 0 4 (xV [a,b,c,d]):=
 ⟨fun _=>rfl,fun _=>by simp,fun j e=>by
  rcases (show j=0\/j=1\/j=2\/j=3 by omega) with rfl | rfl | rfl | rfl
  ·simp [xV]
  ·simp [xV]
  ·simp [xV]
  ·simp [xV]⟩
structure CubW (D i e q1 q2 r1 r2 r3 s2 s3 t1 t2 n1 n2:Int):Prop where
 hq1:e*e=q1
 hq2:q1*e=q2
 hr1:3*e=r1
 hr2:r1*e=r2
 hr3:r2*i=r3
 hs2:r1*i=s2
 hs3:s2*i=s3
 ht1:i*i=t1
 ht2:t1*i=t2
 hn1:D*D=n1
 hn2:n1*D=n2
 b:(0<=q1/\q1<=12006023184)/\(0<=q2/\q2<=1315523972317248)/\(0<=r1/\r1<=328716)/\(0<=r2/\r2<=36018069552)/\(0<=r3/\r3<=3946571916951744)/\(0<=s2/\s2<=36018069552)/\(0<=s3/\s3<=3946571916951744)/\(0<=t1/\t1<=12006023184)/\(0<=t2/\t2<=1315523972317248)/\(0<=n1/\n1<=12006023184)/\(0<=n2/\n2<=1315523972317248)
theorem uZ {D i e:Int} (d:0<=i) (hi:i<=109572) (a:0<=e) (f:e<=109572) (c:0<=D) (l:D<=109572):∃ y s r n x A q t1 z p v,CubW D i e y s r n x A q t1 z p v:=by
 have h:=sc a f a f;have o:=sc h.1 h.2 a f;have g:=sc (show 0<=3*e by omega) (show 3*e<=328716 by omega) a f
 have u:=sc g.1 g.2 d hi;have j:=sc (show 0<=3*e by omega) (show 3*e<=328716 by omega) d hi
 have w:=sc j.1 j.2 d hi;have m:=sc d hi d hi;have t:=sc m.1 m.2 d hi;have b:=sc c l c l;have k:=sc b.1 b.2 c l;exact⟨_,_,_,_,_,_,_,_,_,_,_,rfl,rfl,rfl,rfl,rfl,rfl,rfl,rfl,rfl,rfl,rfl,h,o,⟨by omega,by omega⟩,g,u,j,w,m,t,b,k⟩
theorem ON (x:Int) (t u cx C B cy n k D A:Nat) (r I i e q1 q r1 r2 s s2 m W a n1:Int) (ps:List Nat) (w:World)
  (hR:∀ f,TBox w 3 (.slice (some ⟨t,u,none⟩) n cx) (.slice (some ⟨C,B,none⟩) n cy) f->f.cell? ⟨t,u+k,none⟩=some (.int .i64 r)/\f.cell? ⟨t,u+(k+1),none⟩=some (.int .i64 I))
  (hk:k+1<n) (hn:n<=256) (h0:0<=r) (h1:I<=109572) (hD:I - r=(D:Int)) (hi:x - r=i) (he:(D:Int) - i=e) (bh:0<i) (cf:i<(D:Int)) (hC:CubW (D:Int) i e q1 q r1 r2 s s2 m W a n1 (A:Int)) (V:1<=A) (L:ps.length=4) (y:∀ j<4,ps.getD j 0<18446744073709551616)
  (H:Hid (lH w 3 (.slice (some ⟨t,u,none⟩) n cx) (.slice (some ⟨C,B,none⟩) n cy) x (k:Int) 0))
  (K:Hid (∀ b,Below w.heap.size w b->Calls Tryz.prog 147 #[.agg #[.int .i64 3,.slice (some ⟨t,u,none⟩) n cx,.slice (some ⟨C,B,none⟩) n cy],.int .i64 (k:Int)] b fun e f=>∃ v,e=.returned (.tuple #[v,.int .i64 0])/\f.ownsRow b.heap.size 41 1 v 4 (ps.map uV)/\Below b.heap.size b f)) :
  Calls Tryz.prog 107 #[.agg #[.int .i64 3,.slice (some ⟨t,u,none⟩) n cx,.slice (some ⟨C,B,none⟩) n cy],.int .i64 x] w fun e f=>e=.returned (.tuple #[.int .u64 (aR (wAt [q,s,m,a] ps 4) A:Int),.int .i64 0])/\Below w.heap.size w f:=by
 have HB:=hideS (bQ w 3 (.slice (some ⟨t,u,none⟩) n cx) (.slice (some ⟨C,B,none⟩) n cy));unfold lH at H
 have HR:=hideS hR;obtain⟨br,bs,ak,cs,bo,ba,bz,bc,bv,al,ca,⟨p1,cp⟩,⟨p2,cr⟩,⟨p3,cd⟩,⟨p4,bb⟩,⟨p5,ci⟩,⟨p6,cq⟩,⟨p7,bk⟩,⟨p8,bi⟩,⟨p9,cl⟩,⟨ai,ad⟩,⟨cm,ab⟩⟩:=hC;have E:Hid (∀ b g c,g<b.heap.size->(∀ j<4,b.cell? ⟨g,j,none⟩=some (.int .u64 (ps.getD j 0:Nat)))->Calls Tryz.prog 146 #[.slice (some ⟨b.heap.size,0,none⟩) 4 4,.slice (some ⟨g,0,none⟩) 4 c,.int .i64 (A:Int)] (b.alloc (.cells #[.int .i64 q,.int .i64 s,.int .i64 m,.int .i64 a] 3)) fun e f=>e=.returned (.int .u64 (aR (wAt [q,s,m,a] ps 4) A:Int))/\Below b.heap.size b f):=fun b g c hl hc=>by
  have h:Below b.heap.size b (b.alloc (.cells #[.int .i64 q,.int .i64 s,.int .i64 m,.int .i64 a] 3)):=(Below.refl _ _).alloc (Nat.le_refl _) _;refine (jh b.heap.size 0 4 g 0 c 4 A [q,s,m,a] ps _ (IG b _ _ _ _) ⟨fun _=>rfl,fun _=>Nat.lt_of_lt_of_le hl h.size,fun j O=>?_⟩ (by omega) (by omega) (fun j O=>?_) y V (by omega)).mono ?_
  ·rw [Nat.zero_add];exact (h.cell (p:=⟨g,j,none⟩) hl).trans (hc j O)
  ·rcases (show j=0\/j=1\/j=2\/j=3 by omega) with rfl | rfl | rfl | rfl
   ·show -9007199254740992<=q/\q<=_;omega
   ·show -9007199254740992<=s/\s<=_;omega
   ·show -9007199254740992<=m/\m<=_;omega
   ·show -9007199254740992<=a/\a<=_;omega
  ·rintro e f ⟨rfl,hb⟩;exact⟨rfl,h.trans (hb.mono h.size)⟩
 generalize aR (wAt [q,s,m,a] ps 4) A=R at *
 have o:=hideS (And.intro L y);have f1:IntKind.i64.wrap ((k:Int)+1)=(k:Int)+1:=by rw [IntKind.wrap_i64];omega
 have f2:IntKind.i64.wrap (I - r)=I - r:=by rw [IntKind.wrap_i64];omega
 have f3:IntKind.i64.wrap (x - r)=x - r:=by rw [IntKind.wrap_i64];omega
 have g1:(0:Int)<=(k:Int)+1:=by omega
 have g2:(k:Int)+1<(n:Int):=by omega
 have g3:(0:Int)<=(k:Int):=by omega
 have g4:(k:Int)<(n:Int):=by omega
 have hx:(r==x)=false:=beq_false_of_ne (by omega)
 have am:(D:Int)<=109572:=by omega
 have ct:0<=e:=by omega
 have cc:e<=109572:=by omega
 clear hR L y
 go_enter Tryz.func107,Tryz.ntmps107
 go_wp2_with fail
 refine (H.out _ HB.out.bl).mono ?_
 rintro e w1 ⟨rfl,F⟩;have l:=hideS (HB.out.step F);clear F;obtain⟨S,P⟩:=HR.out w1 l.out;obtain⟨T,Q,Z,_,_⟩:=l.out
 go_wp2_with fail
 go_quiet (fail)
 obtain⟨M,z⟩:∃ M,w1.drewN nq=M:=⟨_,rfl⟩;rw [z];have d:Hid (TBox w 3 (.slice (some ⟨t,u,none⟩) n cx) (.slice (some ⟨C,B,none⟩) n cy) M):=by show TBox _ _ _ _ _;rw [<- z];exact l.out.drewN nq
 clear z T Q Z S P l;obtain⟨S,P⟩:=HR.out M d.out;obtain⟨T,Q,Z,_,_⟩:=d.out
 go_wp2_with fail
 refine (K.out _ d.out.bl).mono ?_
 rintro e w2 ⟨v,rfl,ho,G⟩;obtain⟨pp,g,c,rfl,N,_,_,_⟩:=bq ho o.out.1;obtain rfl:=N.at_ (by rw [o.out.1];omega)
 have U:=hideS (d.out.step G);have X:=hideS (E.out w2 g c (N.lt (by rw [o.out.1];omega)) (fun j O=>by have:=N.cell j (by rw [o.out.1];exact O);rw [Nat.zero_add] at this;exact this))
 clear G ho N T Q Z S P d E K
 go_wp2_with fail
 refine X.out.mono ?_
 rintro e w3 ⟨rfl,J⟩;have Y:=hideS (U.out.step J);clear J
 go_wp2_with fail
 go_ret2
 exact⟨rfl,Y.out.bl⟩
theorem EK {a b:Int} {p q:Nat} (d:a+1074=(p:Int)) (c:b+1074=(q:Int)):(a+b+2148).toNat=p+q:=by omega
theorem EL {x y:Nat} (u:x<18446744073709551616) (e:af x) (v:y<18446744073709551616) (c:af y):A.bn x y=⟨0,vI x*vI y⟩:=by
 obtain⟨j,h,p,l⟩:=IM u e;obtain⟨n,f,o,r⟩:=IM v c;have q:A.bn x y=A.fF (x:Int) (y:Int):=by unfold A.bn;rw [j,n];rfl
 have i:aA (x:Int)*aA (y:Int)*2^(aQ (x:Int)+aQ (y:Int)+2148).toNat=vI x*vI y:=by
  rw [<- p,<- o]
  by_cases g:aA (x:Int)=0
  ·rw [g,Int.zero_mul,Int.zero_mul,Int.zero_mul,Int.zero_mul]
  ·by_cases d:aA (y:Int)=0
   ·rw [d,Int.zero_mul,Int.mul_zero,Int.zero_mul,Int.mul_zero]
   ·have a:=l g;have b:=r d;rw [EK a b,Int.pow_add,Int.natCast_pow,Int.natCast_pow];clear q p o l r a b g d j n;generalize aA (x:Int)=m;generalize aA (y:Int)=k
    show m*k*(2^h*2^f)=m*2^h*(k*2^f)
    generalize (2:Int)^h=s;generalize (2:Int)^f=t;simp only [Int.mul_assoc,Int.mul_left_comm k]
 rw [q];exact congrArg (A.St.mk 0) i
theorem gJ {m:Int} {y K:Nat} (f:K=1074) (h: -9007199254740992<=m) (g:m<=9007199254740992) (i:y<18446744073709551616) (e:af y):A.bn (fi m) y=⟨0,m*uI K y⟩:=by
 obtain⟨a,b,c,d⟩:=nA (m:=m) f h g;rw [EL d b i e,a];unfold uI
 congr 1
 rw [Int.mul_assoc,Int.mul_comm (((2^K:Nat)):Int)]
theorem mK (a b:Int):A.St.merge ⟨0,a⟩ ⟨0,b⟩=⟨0,a+b⟩:=rfl
theorem vh {a b:Int} {y0 y1 K:Nat} (c:K=1074) (d: -9007199254740992<=a/\a<=9007199254740992) (e: -9007199254740992<=b/\b<=9007199254740992) (f:y0<18446744073709551616) (i:af y0) (g:y1<18446744073709551616) (h:af y1):wAt [a,b] [y0,y1] 2=⟨0,a*uI K y0+b*uI K y1⟩:=by
 show ((⟨0,0⟩:A.St).merge (A.bn (fi a) y0)).merge (A.bn (fi b) y1)=_
 rw [gJ c d.1 d.2 f i,gJ c e.1 e.2 g h,mK,mK,Int.zero_add]
theorem xI {a b c d:Int} {y0 y1 f e K:Nat} (g:K=1074) (h: -9007199254740992<=a/\a<=9007199254740992) (i: -9007199254740992<=b/\b<=9007199254740992) (hc: -9007199254740992<=c/\c<=9007199254740992) (j: -9007199254740992<=d/\d<=9007199254740992) (k:y0<18446744073709551616) (n:af y0) (o:y1<18446744073709551616) (m:af y1) (l:f<18446744073709551616) (p:af f) (r:e<18446744073709551616) (q:af e):wAt [a,b,c,d] [y0,y1,f,e] 4=⟨0,a*uI K y0+b*uI K y1+c*uI K f+d*uI K e⟩:=by
 show ((((⟨0,0⟩:A.St).merge (A.bn (fi a) y0)).merge (A.bn (fi b) y1)).merge (A.bn (fi c) f)).merge (A.bn (fi d) e)=_
 rw [gJ g h.1 h.2 k n,gJ g i.1 i.2 o m,gJ g hc.1 hc.2 l p,gJ g j.1 j.2 r q,mK,mK,mK,mK,Int.zero_add]
theorem kL (N:Int) (d:Nat):aR ⟨0,N⟩ d=overG N d:=by
 unfold aR overG;rw [if_pos rfl,mI]
structure Inside (xs:List Int) (x:Int) (k D:Nat) (i:Int):Prop where
 lt:k+1<xs.length
 hD:xs.getD (k+1) 0 - xs.getD k 0=(D:Int)
 hi:x - xs.getD k 0=i
 lo:0<i
 hi':i<(D:Int)
theorem EM {xs:List Int} {x:Int} {k:Nat} (b:x<=xs.getD (xs.length - 1) 0) (a:FindR xs x k) (g:xs.getD k 0≠x):∃ D i,Inside xs x k D i:=by
 have e:=a.le;have d:k+1<xs.length:=Classical.byContradiction fun c=>by
  have f:=a.lt;rw [show xs.length - 1=k by omega] at b
  omega
 have h:=a.gt d;exact⟨(xs.getD (k+1) 0 - xs.getD k 0).toNat,_,d,by omega,rfl,by omega,by omega⟩
def linV (ys:List Nat) (k D:Nat) (i:Int):Nat:=aR (wAt [(D:Int) - i,i] [ys.getD k 0,ys.getD (k+1) 0] 2) D
theorem xJ (kind x k E:Int) (b a:Option Addr) (c d cx f g cy:Nat) (xs:List Int) (ys:List Nat) (w:World) (h:FindO kind xs ys x k E) (n:E≠0) (j:TSrc w b a c d f g xs ys) :
  Calls Tryz.prog 107 #[.agg #[.int .i64 kind,.slice b xs.length cx,.slice a ys.length cy],.int .i64 x] w fun e m=>e=.returned (.tuple #[.int .u64 0,.int .i64 E])/\Below w.heap.size w m:=
 OL kind x k E _ _ w n (fun i l=>cJ kind x k E b a c d cx f g cy xs ys i h (j.below l))
theorem lJ (kind x:Int) (d b:Option Addr) (f i cx l m cy n k:Nat) (xs:List Int) (ys:List Nat) (w:World) (h:OkT kind xs ys) (hn:xs.length=n) (q:FindO kind xs ys x (k:Int) 0) (p:k<n) (j:xs.getD k 0=x\/(xs.getD k 0≠x/\kind=1)) (a:TSrc w d b f i l m xs ys) :
  Calls Tryz.prog 107 #[.agg #[.int .i64 kind,.slice d n cx,.slice b n cy],.int .i64 x] w fun e o=>e=.returned (.tuple #[.int .u64 (ys.getD k 0:Nat),.int .i64 0])/\Below w.heap.size w o:=by
 have g:=h.len;have s:=h.hi;have H:lH w kind (.slice d n cx) (.slice b n cy) x (k:Int) 0:=fun r c=>by
  have:=cJ kind x k 0 d b f i cx l m cy xs ys r q (a.below c);rw [g,hn] at this
  exact this
 obtain rfl:=a.x.at_ (by omega)
 obtain rfl:=a.y.at_ (by omega)
 exact Mt kind x f i cx l m cy n k (xs.getD k 0) (ys.getD k 0) w (fun o c=>⟨(a.below c).x.cell k (by omega),(a.below c).y.cell k (by omega)⟩) p (by omega) j H
theorem xK (x:Int) (l g:Option Addr) (m p cx q s cy n k D:Nat) (i:Int) (xs:List Int) (ys:List Nat) (w:World) (h:OkT 2 xs ys) (hn:xs.length=n) (A:FindO 2 xs ys x (k:Int) 0) (c:Inside xs x k D i) (r:n<=cy) (d:cy<=9223372036854775807) (b:TSrc w l g m p q s xs ys) :
  Calls Tryz.prog 107 #[.agg #[.int .i64 2,.slice l n cx,.slice g n cy],.int .i64 x] w fun e t=>e=.returned (.tuple #[.int .u64 (linV ys k D i:Int),.int .i64 0])/\Below w.heap.size w t:=by
 have o:=h.len;have E:=h.hi;have z:=c.lt;have H:lH w 2 (.slice l n cx) (.slice g n cy) x (k:Int) 0:=fun B C=>by
  have:=cJ 2 x k 0 l g m p cx q s cy xs ys B A (b.below C);rw [o,hn] at this
  exact this
 obtain rfl:=b.x.at_ (by omega)
 obtain rfl:=b.y.at_ (by omega)
 have v:=aq (h.node k (by omega))
 have u:=aq (h.node (k+1) (by omega))
 exact OM x m p cx q s cy n k D (xs.getD k 0) (xs.getD (k+1) 0) i (ys.getD k 0) (ys.getD (k+1) 0) w (fun t j=>by
   have a:=b.below j.bl;exact⟨j.t0,j.t1,j.t2,a.x.cell k (by omega),a.x.cell (k+1) (by omega),a.y.cell k (by omega),a.y.cell (k+1) (by omega),a.y.lt (by omega)⟩)
  (by omega) (by omega) r d v.1 u.2.1 c.hD c.hi c.lo c.hi' (by have:=(b.f k (by omega)).2;omega) (by have:=(b.f (k+1) (by omega)).2;omega) H
def AR (ps:List Nat) (D:Nat) (i:Int):Nat:=aR (wAt [((D:Int) - i)*((D:Int) - i)*((D:Int) - i),3*((D:Int) - i)*((D:Int) - i)*i,3*((D:Int) - i)*i*i,i*i*i] ps 4) (D*D*D)
theorem OR {xs:List Int} {ys:List Nat} {k:Nat} (b:ys.getD k 0<18446744073709551616) (a:ys.getD (k+1) 0<18446744073709551616):∀ j<4,(ptL xs ys k).getD j 0<18446744073709551616:=fun j c=>by
 rcases (show j=0\/j=1\/j=2\/j=3 by omega) with rfl | rfl | rfl | rfl
 ·exact b
 ·exact AD b a
 ·exact OE a (AD b a)
 ·exact a
theorem xL (x:Int) (g d:Option Addr) (o p cx q r cy n k D:Nat) (i:Int) (xs:List Int) (ys:List Nat) (w:World) (h:OkT 3 xs ys) (hn:xs.length=n) (R:FindO 3 xs ys x (k:Int) 0) (m:Inside xs x k D i) (c:TSrc w g d o p q r xs ys) :
  Calls Tryz.prog 107 #[.agg #[.int .i64 3,.slice g n cx,.slice d n cy],.int .i64 x] w fun e l=>e=.returned (.tuple #[.int .u64 (AR (ptL xs ys k) D i:Int),.int .i64 0])/\Below w.heap.size w l:=by
 have s:=h.len;have Y:=h.hi;have N:=m.lt;have H:lH w 3 (.slice g n cx) (.slice d n cy) x (k:Int) 0:=fun b z=>by
  have:=cJ 3 x k 0 g d o p cx q r cy xs ys b R (c.below z);rw [s,hn] at this
  exact this
 have M:∀ b,Below w.heap.size w b->Calls Tryz.prog 147 #[.agg #[.int .i64 3,.slice g n cx,.slice d n cy],.int .i64 (k:Int)] b fun e l=>∃ v,e=.returned (.tuple #[v,.int .i64 0])/\l.ownsRow b.heap.size 41 1 v 4 ((ptL xs ys k).map uV)/\Below b.heap.size b l:=fun b z=>pO 3 g d o p cx q r cy n k xs ys b h hn (c.below z) (by omega)
 obtain rfl:=c.x.at_ (by omega)
 obtain rfl:=c.y.at_ (by omega)
 have K:=aq (h.node k (by omega))
 have J:=aq (h.node (k+1) (by omega))
 have U:=m.hD;have A:=m.lo;have u:=m.hi';have B:ys.getD k 0<18446744073709551616:=by have:=(c.f k (by omega)).2;omega
 have t:ys.getD (k+1) 0<18446744073709551616:=by have:=(c.f (k+1) (by omega)).2;omega
 obtain⟨V,Q,O,E,T,X,L,F,W,I,G,a⟩:=uZ (D:=(D:Int)) (i:=i) (e:=(D:Int) - i) (by omega) (by omega) (by omega) (by omega) (by omega) (by omega)
 have P:G=((D*D*D:Nat):Int):=by rw [<- a.hn2,<- a.hn1,Int.natCast_mul,Int.natCast_mul]
 rw [P] at a
 have C:1<=D*D*D:=Nat.mul_pos (Nat.mul_pos (by omega) (by omega)) (by omega)
 unfold AR;rw [a.hq1,a.hq2,a.hr1,a.hr2,a.hr3,a.hs2,a.hs3,a.ht1,a.ht2];exact ON x o p cx q r cy n k D (D*D*D) (xs.getD k 0) (xs.getD (k+1) 0) i ((D:Int) - i) V Q O E T X L F W I (ptL xs ys k) w (fun l S=>by
   have j:=c.below S.bl;exact⟨j.x.cell k (by omega),j.x.cell (k+1) (by omega)⟩)
  (by omega) (by omega) K.1 J.2.1 U m.hi rfl A u a C rfl (OR B t) H M
structure NumW (y:Nat):Prop where
 lt:y<18446744073709551616
 nb:af y
theorem mL {y0 y1 D K:Nat} {i:Int} (c:K=1074) (a:NumW y0) (b:NumW y1) (hi:0<=i) (d:i<=(D:Int)) (e:(D:Int)<=109572):aR (wAt [(D:Int) - i,i] [y0,y1] 2) D=overG (eJ (D:Int) i (uI K y0) (uI K y1)) D:=by
 rw [vh c ⟨by omega,by omega⟩ ⟨by omega,by omega⟩ a.lt a.nb b.lt b.nb,kL]
 rfl
theorem te {g c d f D K:Nat} {i:Int} (p:K=1074) (h:NumW g) (k:NumW c) (j:NumW d) (l:NumW f) (hi:0<=i) (o:i<=(D:Int)) (G:(D:Int)<=109572):AR [g,c,d,f] D i=overG (eD (D:Int) i (uI K g) (uI K c) (uI K d) (uI K f)) (D*D*D):=by
 obtain⟨F,B,z,s,C,I,x,u,H,w,t,a⟩:=uZ (D:=(D:Int)) (i:=i) (e:=(D:Int) - i) (by omega) (by omega) (by omega) (by omega) (by omega) (by omega)
 unfold AR eD;rw [a.hq1,a.hq2,a.hr1,a.hr2,a.hr3,a.hs2,a.hs3,a.ht1,a.ht2];obtain⟨⟨_,_⟩,⟨y,r⟩,⟨_,_⟩,⟨_,_⟩,⟨E,n⟩,⟨_,_⟩,⟨A,q⟩,⟨_,_⟩,⟨v,m⟩,_,_⟩:=a.b;rw [xI p ⟨by omega,by omega⟩ ⟨by omega,by omega⟩ ⟨by omega,by omega⟩ ⟨by omega,by omega⟩ h.lt h.nb k.lt k.nb j.lt j.nb l.lt l.nb,kL]
theorem Od (D:Nat):((D*D*D:Nat):Int)=(D:Int)*(D:Int)*(D:Int):=by rw [Int.natCast_mul,Int.natCast_mul]
theorem xM {y0 y1 D K:Nat} {i:Int} (e:K=1074) (b:NumW y0) (c:NumW y1) (hi:0<=i) (d:i<=(D:Int)) (a:0<D) (h:ae (y0:Nat)<=ae (y1:Nat)) :
  ae (y0:Nat)<=gc (eJ (D:Int) i (uI K y0) (uI K y1)) D/\gc (eJ (D:Int) i (uI K y0) (uI K y1)) D<=ae (y1:Nat):=by
 have g:=nH K b.lt b.nb c.lt c.nb h;have f:=II (n:=(D:Int)) hi d g;exact⟨CW e b.lt b.nb a f.1,CX e c.lt c.nb a f.2⟩
theorem sd {y0 y1 D K:Nat} {i:Int} (e:K=1074) (b:NumW y0) (c:NumW y1) (hi:0<=i) (d:i<=(D:Int)) (a:0<D) (h:ae (y1:Nat)<=ae (y0:Nat)) :
  ae (y1:Nat)<=gc (eJ (D:Int) i (uI K y0) (uI K y1)) D/\gc (eJ (D:Int) i (uI K y0) (uI K y1)) D<=ae (y0:Nat):=by
 have g:=nH K c.lt c.nb b.lt b.nb h;have f:=OQ (n:=(D:Int)) hi d g;exact⟨CW e c.lt c.nb a f.1,CX e b.lt b.nb a f.2⟩
structure Up4 (p0 p1 p2 p3:Nat):Prop where
 n0:NumW p0
 n1:NumW p1
 n2:NumW p2
 n3:NumW p3
 r1:ae (p0:Nat)<=ae (p1:Nat)
 r2:ae (p1:Nat)<=ae (p2:Nat)
 r3:ae (p2:Nat)<=ae (p3:Nat)
theorem xN {b d e c D K:Nat} {i:Int} (j:K=1074) (h:Up4 b d e c) (hi:0<=i) (g:i<=(D:Int)) (a:0<D) :
  ae (b:Nat)<=gc (eD (D:Int) i (uI K b) (uI K d) (uI K e) (uI K c)) (D*D*D)/\gc (eD (D:Int) i (uI K b) (uI K d) (uI K e) (uI K c)) (D*D*D)<=ae (c:Nat):=by
 have m:=nH K h.n0.lt h.n0.nb h.n1.lt h.n1.nb h.r1;have o:=nH K h.n1.lt h.n1.nb h.n2.lt h.n2.nb h.r2;have l:=nH K h.n2.lt h.n2.nb h.n3.lt h.n3.nb h.r3;have f:=OO (n:=(D:Int)) hi g m o l;have k:0<D*D*D:=Nat.mul_pos (Nat.mul_pos a a) a;rw [<- Od] at f
 exact⟨CW j h.n0.lt h.n0.nb k f.1,CX j h.n3.lt h.n3.nb k f.2⟩
structure Down4 (p0 p1 p2 p3:Nat):Prop where
 n0:NumW p0
 n1:NumW p1
 n2:NumW p2
 n3:NumW p3
 r1:ae (p1:Nat)<=ae (p0:Nat)
 r2:ae (p2:Nat)<=ae (p1:Nat)
 r3:ae (p3:Nat)<=ae (p2:Nat)
theorem sf {b d e c D K:Nat} {i:Int} (j:K=1074) (h:Down4 b d e c) (hi:0<=i) (g:i<=(D:Int)) (a:0<D) :
  ae (c:Nat)<=gc (eD (D:Int) i (uI K b) (uI K d) (uI K e) (uI K c)) (D*D*D)/\gc (eD (D:Int) i (uI K b) (uI K d) (uI K e) (uI K c)) (D*D*D)<=ae (b:Nat):=by
 have m:=nH K h.n1.lt h.n1.nb h.n0.lt h.n0.nb h.r1;have o:=nH K h.n2.lt h.n2.nb h.n1.lt h.n1.nb h.r2;have l:=nH K h.n3.lt h.n3.nb h.n2.lt h.n2.nb h.r3;have f:=OP (n:=(D:Int)) hi g m o l;have k:0<D*D*D:=Nat.mul_pos (Nat.mul_pos a a) a;rw [<- Od] at f
 exact⟨CW j h.n3.lt h.n3.nb k f.1,CX j h.n0.lt h.n0.nb k f.2⟩
structure NN (x:Nat):Prop where
 lt:x<18446744073709551616
 le:x % 9223372036854775808<=9218868437227405312
theorem NN.cases {x:Nat} (h:NN x):af x\/x % 9223372036854775808=9218868437227405312:=by
 unfold af;have:=h.le;omega
theorem NN.nan {x:Nat} (h:NN x):ah (x:Nat)=false:=by
 unfold ah szI;rw [decide_eq_false_iff_not];have:=h.le;omega
theorem Qp {x:Nat} (a:x<18446744073709551616) (h:ah (x:Nat)=false):NN x:=by
 unfold ah szI at h;rw [decide_eq_false_iff_not] at h;exact⟨a,by omega⟩
theorem NumW.nn {x:Nat} (h:NumW x):NN x:=⟨h.lt,by have:=h.nb;unfold af at this;omega⟩
theorem pY {s:Bool} {r:Nat} (h:r<=9218868437227405312):NN (wrd s r)/\sB (wrd s r)=s:=by
 unfold wrd sB;cases s
 ·exact⟨⟨by simp;omega,by simp;omega⟩,by simp;omega⟩
 ·refine⟨⟨by simp;omega,by simp;omega⟩,?_⟩
  rw [if_pos rfl,show (9223372036854775808+r) / 9223372036854775808 % 2=1 by omega];rfl
theorem pZ {r:Nat} {k:Int} (h:RkW r k):NN r:=Qp h.2.1 h.2.2
theorem De {x y:Nat} (a:NumW x) (b:NumW y):NN (sSub x y):=by
 obtain⟨r,e,h⟩:=pW a.nb b.nb;unfold sSub;rw [e,ar];exact pZ h
theorem iB {x y:Nat} (d:NN x) (a:NumW y) (b:y % 9223372036854775808≠0):NN (sDiv x y):=by
 unfold sDiv;rcases d.cases with h | h
 ·obtain⟨r,e,c⟩:=pX h a.nb b;rw [e,ar];exact pZ c
 ·rw [CM h a.nb,ar];exact (pY (by omega)).1
theorem jO {x y:Nat} (d:NN x) (a:NumW y) (b:y % 9223372036854775808≠0):NN (sMul x y):=by
 unfold sMul;rcases d.cases with h | h
 ·obtain⟨r,e,c⟩:=ji h a.nb;rw [e,ar];exact pZ c
 ·rw [(fS h a.nb b).1,ar];exact (pY (by omega)).1
theorem oF {x y:Nat} (b:NumW x) (a:NN y):NN (sAdd x y):=by
 unfold sAdd;rcases a.cases with h | h
 ·obtain⟨r,e,c⟩:=fG b.nb h;rw [e,ar];exact pZ c
 ·rw [(lz h b.nb a.lt).2,ar];exact a
theorem tf {x y:Nat} (f:NN x) (g:NN y) (j:sB x=sB y):NN (sAdd x y):=by
 unfold sAdd;rcases f.cases with h | h<;>rcases g.cases with i | i
 ·obtain⟨r,e,k⟩:=fG h i;rw [e,ar];exact pZ k
 ·rw [(lz i h g.lt).2,ar];exact g
 ·rw [(lz h i f.lt).1,ar];exact f
 ·have e:x=y:=by
   have a:=f.lt;have b:=g.lt;unfold sB at j
   have c:(x / 9223372036854775808 % 2==1)=(y / 9223372036854775808 % 2==1):=j;have d:x / 9223372036854775808 % 2=y / 9223372036854775808 % 2:=by
    rcases Nat.mod_two_eq_zero_or_one (x / 9223372036854775808) with p | p<;>rcases Nat.mod_two_eq_zero_or_one (y / 9223372036854775808) with q | q<;>rw [p,q] at c<;>simp_all
   omega
  rw [pH h i f.lt g.lt,if_pos e,ar];exact f
theorem qe {c a:Nat} (hc:af c) (d:c % 9223372036854775808≠0) (b:sB c=false) (f:NN a) (e:a % 9223372036854775808≠0):NN (sDiv c a)/\sB (sDiv c a)=sB a:=by
 unfold sDiv;rcases f.cases with h | h
 ·have g:(mg (a % 9223372036854775808)).log2<53:=(Nat.log2_lt (fy e)).2 (by have:=ns (a % 9223372036854775808);omega)
  rw [jL hc h d e rfl rfl rfl rfl (k:=300) (by omega),ar,b,Bool.false_xor]
  exact pY (pT _ _)
 ·rw [pK hc h,ar,b,Bool.false_xor];exact pY (by omega)
theorem IO {s:Nat} (b:NN s):NN (sDiv 4611686018427387904 s):=by
 by_cases a:s % 9223372036854775808=0
 ·unfold sDiv;rw [nC (by unfold af;decide) (by decide) a,ar]
  exact (pY (by omega)).1
 ·exact (qe (by unfold af;decide) (by decide) (by decide) b a).1
theorem iC {a:Nat} (f:a<18446744073709551616) (h:ltB 0 (a:Nat)=true):a % 9223372036854775808≠0/\sB a=false:=by
 unfold ltB at h
 simp only [Bool.and_eq_true,Bool.not_eq_true',decide_eq_true_eq] at h
 obtain⟨⟨_,d⟩,b⟩:=h;have e:ae 0=0:=by decide
 rw [e] at b
 unfold ae at b
 rw [d,if_neg (by decide)] at b
 unfold sgB szI at b
 by_cases c:(9223372036854775808:Int)<=(a:Int)
 ·simp [c] at b;omega
 ·simp [c] at b
  refine⟨by omega,?_⟩
  unfold sB;rw [show a / 9223372036854775808 % 2=0 by omega];rfl
theorem oG {a:Nat} (f:a<18446744073709551616) (h:ltB (a:Nat) 0=true):a % 9223372036854775808≠0/\sB a=true:=by
 unfold ltB at h
 simp only [Bool.and_eq_true,Bool.not_eq_true',decide_eq_true_eq] at h
 obtain⟨⟨d,_⟩,b⟩:=h;have e:ae 0=0:=by decide
 rw [e] at b
 unfold ae at b
 rw [d,if_neg (by decide)] at b
 unfold sgB szI at b
 by_cases c:(9223372036854775808:Int)<=(a:Int)
 ·simp [c] at b
  refine⟨by omega,?_⟩
  unfold sB;rw [show a / 9223372036854775808 % 2=1 by omega];rfl
 ·simp [c] at b;omega
theorem OS {a b:Nat} (k:NN a) (l:NN b):NN (slB a b):=by
 have c:af 4607182418800017408:=by unfold af;decide
 have d:a % 9223372036854775808≠0->b % 9223372036854775808≠0->sB a=sB b->NN (sDiv 4611686018427387904 (sAdd (sDiv 4607182418800017408 a) (sDiv 4607182418800017408 b))):=fun e f q=>by
  obtain⟨n,r⟩:=qe c (by decide) (by decide) k e
  obtain⟨p,t⟩:=qe c (by decide) (by decide) l f
  exact IO (tf n p (by rw [r,t,q]))
 have h:=Ie a b;generalize slB a b=z at *
 cases h with
 | up e f=>
  obtain⟨j,i⟩:=iC k.lt e;obtain⟨g,m⟩:=iC l.lt f;exact d j g (by rw [i,m])
 | down1 e s o=>
  obtain⟨j,i⟩:=oG k.lt s;obtain⟨g,m⟩:=oG l.lt o;exact d j g (by rw [i,m])
 | flat1=>exact⟨by decide,by decide⟩
 | flat2=>exact⟨by decide,by decide⟩
 | flat3=>exact⟨by decide,by decide⟩
theorem vj {x y:Nat} (c:NumW x) (a:NN y):NN (sSub x y):=by
 have e:sSub x y=sAdd x (flipN y):=by unfold sSub sAdd;rw [xf a.lt a.nan]
 obtain⟨d,b,_⟩:=cz a.lt;rw [e];exact oF c ⟨d,by rw [b];exact a.le⟩
theorem iD {m:Int} (f:0<m) (h:m<=9007199254740992):NumW (fi m)/\fi m % 9223372036854775808≠0:=by
 obtain⟨a,b,c,d⟩:=nA (m:=m) rfl (by omega) h
 refine⟨⟨d,b⟩,fun e=>?_⟩
 have i:vI (fi m)=0:=by unfold vI;rw [e,bp];split<;>rfl
 rw [i] at a
 have g:(0:Int)<((2^1074:Nat):Int):=by have:=Nat.two_pow_pos 1074;omega
 have:=Int.mul_pos f g;omega
theorem aN {kind:Int} {xs:List Int} {ys:List Nat} (h:OkT kind xs ys) (b:∀ i<ys.length,U64 (ys.getD i 0:Nat)) {i:Nat} (hi:i<xs.length):NumW (ys.getD i 0):=by
 have a:=(aq (h.node i hi)).2.2.2.1;have c:=b i (by rw [h.len];exact hi)
 unfold aM szI at a
 rw [decide_eq_true_eq] at a
 exact⟨by have:=c.2;omega,by unfold af;omega⟩
theorem fH {kind:Int} {xs:List Int} {ys:List Nat} (h:OkT kind xs ys) (d:∀ i<ys.length,U64 (ys.getD i 0:Nat)) {k:Nat} (c:k+1<xs.length):NN (steepB xs ys k):=by
 have f:=h.step c;have e:=aq (h.node k (by omega))
 have g:=aq (h.node (k+1) c);obtain⟨a,b⟩:=iD (m:=xs.getD (k+1) 0 - xs.getD k 0) (by omega) (by omega)
 exact iB (De (aN h d c) (aN h d (by omega))) a b
theorem xO {kind:Int} {xs:List Int} {ys:List Nat} (h:OkT kind xs ys) (b:∀ i<ys.length,U64 (ys.getD i 0:Nat)):∀ k,k+1<xs.length->∀ d ∈ eG xs ys k,NN d
 | 0,hk,d,a=>by
  have:d=steepB xs ys 0:=by simpa [eG] using a
  rw [this];exact fH h b hk
 | k+1,hk,d,a=>by
  rw [iv,List.mem_append] at a
  rcases a with a | a
  ·exact xO h b k (by omega) d a
  ·have:d=slB (steepB xs ys k) (steepB xs ys (k+1)):=by simpa using a
   rw [this];exact OS (fH h b (by omega)) (fH h b hk)
theorem gK {kind:Int} {xs:List Int} {ys:List Nat} (h:OkT kind xs ys) (b:∀ i<ys.length,U64 (ys.getD i 0:Nat)) (i:Nat):NN ((bG xs ys xs.length).getD i 0):=by
 have z:NN 0:=⟨by decide,by decide⟩
 by_cases hi:i<(bG xs ys xs.length).length
 ·have e:(bG xs ys xs.length).getD i 0=(bG xs ys xs.length)[i]:=by simp [List.getD,List.getElem?_eq_getElem hi]
  rw [e];have a:=List.getElem_mem hi;generalize (bG xs ys xs.length)[i]=d at *
  unfold bG at a
  have c:=h.lo
  split at a
  ·have:d=0:=by simpa using a
   rw [this];exact z
  ·rw [List.mem_append] at a
   rcases a with a | a
   ·exact xO h b _ (by omega) d a
   ·have:d=steepB xs ys (xs.length - 2):=by simpa using a
    rw [this];exact fH h b (by omega)
 ·have e:(bG xs ys xs.length).getD i 0=0:=by simp [List.getD,List.getElem?_eq_none (show (bG xs ys xs.length).length<=i by omega)]
  rw [e];exact z
theorem Df {x a b:Nat} (e:x<18446744073709551616) (hn:ah (x:Nat)=false) (c:NumW a) (d:NumW b) (i:ae (a:Nat)<=ae (x:Nat)) (h:ae (x:Nat)<=ae (b:Nat)):NumW x:=by
 have g: -9218868437227405312<ae (a:Nat):=by
  rcases vI_rank c.lt c.nb with⟨p,_,q⟩| ⟨p,_,q⟩
  ·omega
  ·have:=c.nb;unfold af at this;omega
 have f:ae (b:Nat)<9218868437227405312:=by
  rcases vI_rank d.lt d.nb with⟨p,_,q⟩| ⟨p,_,q⟩
  ·have:=d.nb;unfold af at this;omega
  ·omega
 exact⟨e,xH (k:=ae (x:Nat)) ⟨rfl,e,hn⟩ (by omega) (by omega)⟩
theorem mM {v a b:Nat} (e:NN v) (c:NumW a) (d:NumW b) (h:ae (a:Nat)<=ae (b:Nat)):NumW (heldN v a b)/\ae (a:Nat)<=ae (heldN v a b:Nat)/\ae (heldN v a b:Nat)<=ae (b:Nat):=by
 obtain⟨x,y,z⟩:=Mn e.nan c.nn.nan d.nn.nan h;rw [<- fC e.lt c.lt d.lt] at x y z
 exact⟨Df (jg e.lt c.lt d.lt) x c d y z,y,z⟩
theorem mN {v a b:Nat} (e:NN v) (c:NumW a) (d:NumW b) (h:ae (b:Nat)<=ae (a:Nat)):NumW (heldN v a b)/\ae (b:Nat)<=ae (heldN v a b:Nat)/\ae (heldN v a b:Nat)<=ae (a:Nat):=by
 obtain⟨x,y,z⟩:=Eh e.nan c.nn.nan d.nn.nan h;rw [<- fC e.lt c.lt d.lt] at x y z
 exact⟨Df (jg e.lt c.lt d.lt) x d c y z,y,z⟩
theorem OT {h d e a b:Nat} (l:NumW h) (i:h % 9223372036854775808≠0) (s:NN d) (u:NN e) (g:NumW a) (f:NumW b) (p:ae (a:Nat)<=ae (b:Nat)):Up4 a (ptP h d a b) (ptQ h e b (ptP h d a b)) b:=by
 obtain⟨k,c⟩:=iD (m:=3) (by decide) (by decide)
 obtain⟨j,n,q⟩:=mM (v:=sAdd a (sDiv (sMul d h) (fi 3))) (oF g (iB (jO s l i) k c)) g f p;obtain⟨r,o,t⟩:=mM (v:=sSub b (sDiv (sMul e h) (fi 3))) (vj f (iB (jO u l i) k c)) j f q;exact⟨g,j,r,f,n,o,t⟩
theorem IP {h d e a b:Nat} (l:NumW h) (i:h % 9223372036854775808≠0) (s:NN d) (u:NN e) (g:NumW a) (f:NumW b) (p:ae (b:Nat)<=ae (a:Nat)):Down4 a (ptP h d a b) (ptQ h e b (ptP h d a b)) b:=by
 obtain⟨k,c⟩:=iD (m:=3) (by decide) (by decide)
 obtain⟨j,n,q⟩:=mN (v:=sAdd a (sDiv (sMul d h) (fi 3))) (oF g (iB (jO s l i) k c)) g f p;obtain⟨r,o,t⟩:=mN (v:=sSub b (sDiv (sMul e h) (fi 3))) (vj f (iB (jO u l i) k c)) j f n;exact⟨g,j,r,f,q,t,o⟩
theorem olt {x c:Nat} (h:x<18446744073709551616) (hc:c<18446744073709551616):(FloatKind.f64.format.order x c==some .lt)=ltB (x:Nat) (c:Nat):=by
 unfold ltB;cases a:ah (x:Int) with
 | true=>rw [eY a];rfl
 | false=>
  cases b:ah (c:Int) with
  | true=>rw [iP b];rfl
  | false=>rw [jB (aU h) (aU hc) a b];rfl
theorem ogt {x c:Nat} (h:x<18446744073709551616) (hc:c<18446744073709551616):(FloatKind.f64.format.order x c==some .gt)=ltB (c:Nat) (x:Nat):=by
 unfold ltB;cases a:ah (x:Int) with
 | true=>rw [eY a];simp
 | false=>
  cases b:ah (c:Int) with
  | true=>rw [iP b];rfl
  | false=>rw [lL (aU h) (aU hc) a b];rfl
theorem mU (v a b:Nat) (w:World) (l:v<18446744073709551616) (f:NumW a) (g:NumW b) :
  Calls Tryz.prog 224 #[.float .f64 v,.float .f64 a,.float .f64 b] w fun e s=>e=.returned (.float .f64 (heldN v a b))/\s=w:=by
 have k:=aC f.nn.nan g.nn.nan;have d:=aC g.nn.nan f.nn.nan;have q:=olt g.lt f.lt;have o:=eI (aU f.lt) (aU g.lt) f.nn.nan g.nn.nan;have r:=olt l f.lt;have p:=olt l g.lt;have m:=ogt l f.lt;have n:=ogt l g.lt;obtain⟨R,c⟩:∃ R,heldN v a b=R:=⟨_,rfl⟩;rw [c];unfold heldN dC at c
 rcases Int.lt_trichotomy (ae (a:Nat)) (ae (b:Nat)) with h | h | h
 ·rw [decide_eq_true h] at k
  rw [decide_eq_false (by omega)] at d o
  rw [d] at q
  rw [k,d] at c
  clear k d p m f g l h;cases j:ltB (v:Nat) (a:Nat)<;>cases i:ltB (b:Nat) (v:Nat)
  all_goals
   rw [j] at r c
   rw [i] at n c
   clear j i;simp at c
   subst c
   go_enter Tryz.func224,Tryz.ntmps224
   go_wp2
   go_ret
   exact⟨rfl,rfl⟩
 ·rw [decide_eq_false (by omega)] at k d
  rw [decide_eq_true h] at o
  rw [d] at q
  rw [k,d] at c
  clear k d p n f g l h;cases j:ltB (v:Nat) (a:Nat)<;>cases i:ltB (a:Nat) (v:Nat)
  all_goals
   rw [j] at r c
   rw [i] at m c
   clear j i;simp at c
   subst c
   go_enter Tryz.func224,Tryz.ntmps224
   go_wp2
   go_ret
   exact⟨rfl,rfl⟩
 ·rw [decide_eq_true h] at d
  rw [decide_eq_false (by omega)] at k o
  rw [d] at q
  rw [d] at c
  clear k d r n f g l h;cases j:ltB (v:Nat) (b:Nat)<;>cases i:ltB (a:Nat) (v:Nat)
  all_goals
   rw [j] at p c
   rw [i] at m c
   clear j i;simp at c
   subst c
   go_enter Tryz.func224,Tryz.ntmps224
   go_wp2
   go_ret
   exact⟨rfl,rfl⟩
def prv (xs:List Int):Nat->Int
 | 0=>-1
 | k+1=>xs.getD k 0
def plB (xs:List Int) (i:Nat):Bool:=decide (xs.getD i 0<=prv xs i)||decide (109572<xs.getD i 0)
def vlB (kind:Int) (ys:List Nat) (i:Nat):Bool:=!aM (ys.getD i 0:Nat)||(decide (kind=4)&&!ltB 0 (ys.getD i 0:Nat))
theorem Bj (p:Option Addr) (n c:Nat) (w:World) (h:n<1\/256<n) :
  Calls Tryz.prog 199 #[.slice p n c] w fun e a=>e=.returned (.bool false)/\a=w:=by
 rcases h with h | h
 ·have b:decide ((n:Int)<1)=true:=decide_eq_true (by omega)
  clear h
  go_enter Tryz.func199,Tryz.ntmps199
  go_wp2
  go_ret
  exact⟨rfl,rfl⟩
 ·have b:decide ((n:Int)<1)=false:=decide_eq_false (by omega)
  have d:decide ((256:Int)<n)=true:=decide_eq_true (by omega)
  clear h
  go_enter Tryz.func199,Tryz.ntmps199
  go_wp2
  go_ret
  exact⟨rfl,rfl⟩
theorem yg (p:Option Addr) (b off c n K:Nat) (xs:List Int) (w:World) (m:VSrc w p b off n (xV xs)) (hn:1<=n) (u:n<=256) (H:K<=n) (a:∀ i<K,plB xs i=false) (d:K<n->plB xs K=true) :
  Calls Tryz.prog 199 #[.slice p n c] w fun e C=>e=.returned (.bool (decide (n<=K)))/\C=w:=by
 obtain⟨g,j⟩:∃ g,decide (n<=K)=g:=⟨_,rfl⟩;rw [j];have z:Hid (K<n->g=false):=fun B=>by rw [<- j];exact decide_eq_false (by omega)
 have D:Hid (K=n->g=true):=fun B=>by rw [<- j];exact decide_eq_true (by omega)
 clear j;have t:=hideS m;have F:=hideS a;have A:=hideS d;obtain rfl:=m.at_ (by omega)
 have v:decide ((n:Int)<1)=false:=decide_eq_false (by omega)
 have E:decide ((256:Int)<n)=false:=decide_eq_false (by omega)
 clear m a d
 go_enter Tryz.func199,Tryz.ntmps199
 go_wp2_with fail
 clear v E
 go_loop [3,5,16] (fun l _ i=>∃ k:Nat,k<=K/\i=.int .i64 k/\l=.int .i64 (prv xs k)) (fun _ _ i=>n - (intOf i).toNat)
 case atStart=>exact⟨0,Nat.zero_le _,rfl,rfl⟩
 case round=>
  obtain⟨k,G,rfl,rfl⟩:=hrel
  by_cases o:k<K
  ·have r:k<n:=by omega
   have c1:w.cell? ⟨b,off+k,none⟩=some (.int .i64 (xs.getD k 0)):=t.out.cell k r;have f:=F.out k o;unfold plB at f
   rw [Bool.or_eq_false_iff] at f
   obtain⟨s,I⟩:=f;have x:=hideS (show prv xs (k+1)=xs.getD k 0 from rfl)
   generalize prv xs k=l at *
   generalize xs.getD k 0=y at *
   go_wp2_with fail
   go_round
   case rel=>exact⟨k+1,by omega,by simp,by rw [x.out]⟩
   case measure=>simp [intOf];omega
  ·obtain rfl:k=K:=by omega
   by_cases q:k<n
   ·have c1:w.cell? ⟨b,off+k,none⟩=some (.int .i64 (xs.getD k 0)):=t.out.cell k q;have f:=A.out q;unfold plB at f
    have h:=hideS (z.out q);generalize prv xs k=l at *
    generalize xs.getD k 0=y at *
    cases s:decide (y<=l)
    ·rw [s,Bool.false_or] at f
     go_wp2_with fail
     go_ret
     exact⟨by rw [h.out]<;>rfl,rfl⟩
    ·clear f
     go_wp2_with fail
     go_ret
     exact⟨by rw [h.out]<;>rfl,rfl⟩
   ·obtain rfl:k=n:=by omega
    have h:=hideS (D.out rfl)
    go_wp2_with fail
    go_ret
    exact⟨by rw [h.out]<;>rfl,rfl⟩
theorem yj (kind:Int) (p:Option Addr) (b off c n K:Nat) (ys:List Nat) (w:World) (I:VSrc w p b off n (flV ys)) (F:∀ i<n,ys.getD i 0<18446744073709551616) (L:n<=256) (X:K<=n) (l:∀ i<K,vlB kind ys i=false) (u:K<n->vlB kind ys K=true) :
  Calls Tryz.prog 200 #[.int .i64 kind,.slice p n c] w fun e f=>e=.returned (.bool (decide (n<=K)))/\f=w:=by
 obtain⟨g,v⟩:∃ g,decide (n<=K)=g:=⟨_,rfl⟩;rw [v];have A:Hid (K<n->g=false):=fun P=>by rw [<- v];exact decide_eq_false (by omega)
 have Q:Hid (K=n->g=true):=fun P=>by rw [<- v];exact decide_eq_true (by omega)
 clear v;have H:=hideS I;have U:=hideS l;have N:=hideS u;have M:=hideS F;clear I l u F
 go_enter Tryz.func200,Tryz.ntmps200
 go_wp2_with fail
 go_loop [6,9] (fun _ i=>∃ k:Nat,k<=K/\i=.int .i64 k) (fun _ i=>n - (intOf i).toNat)
 case atStart=>exact⟨0,Nat.zero_le _,rfl⟩
 case round=>
  obtain⟨k,W,rfl⟩:=hrel
  by_cases C:k<n
  ·have c1:w.cell? ⟨b,off+k,none⟩=some (.float .f64 (ys.getD k 0)):=H.out.cell k C;obtain rfl:=H.out.at_ (by omega)
   have t:=M.out k C;have o:=hideS fun w=>be (ys.getD k 0) w (aU t)
   have a:vlB kind ys k=decide (K<=k):=by
    by_cases B:k<K
    ·rw [U.out k B,decide_eq_false (by omega)]
    ·obtain rfl:k=K:=by omega
     rw [N.out C,decide_eq_true (Nat.le_refl k)]
   have x:=olt t (show (0:Nat)<18446744073709551616 by decide)
   unfold vlB at a
   cases j:ah (ys.getD k 0:Nat) with
   | true=>
    rw [oH j,Bool.not_false,Bool.true_or] at a
    have d:=of_decide_eq_true a.symm;have m:=hideS (A.out (by omega))
    rw [j] at o
    clear a x j d t;generalize ys.getD k 0=y at *
    go_wp2_with (first | (go_at_call 70;refine (o.out _).mono ?_;rintro e f ⟨rfl,rfl⟩))
    go_ret
    exact⟨by rw [m.out]<;>rfl,rfl⟩
   | false=>
    have q:=hideS fun w=>iF (ys.getD k 0) _ w (aU t) (qs j)
    have D:=eI (aU t) (aU (show (0:Nat)<18446744073709551616 by decide)) j (by decide)
    have G:ltB 0 (ys.getD k 0:Nat)=!((FloatKind.f64.format.order (ys.getD k 0) 0==some .lt)||(FloatKind.f64.format.order (ys.getD k 0) 0==some .eq)):=by
     rw [x,D,aC (by decide) j]
     have E:ae ((0:Nat):Int)=0:=by decide
     have z:ae (0:Int)=0:=by decide
     have e:ltB (ys.getD k 0:Nat) ((0:Nat):Int)=decide (ae (ys.getD k 0:Nat)<0):=by rw [aC j (by decide),E]
     rw [e,E,z];generalize ae (ys.getD k 0:Nat)=r
     by_cases R:r<0<;>by_cases O:r=0<;>by_cases T:0<r<;>simp [R,O,T]<;>omega
    rw [G] at a
    rw [j] at o
    clear x D G t j;generalize ys.getD k 0=y at *
    cases h:aM (y:Nat) with
    | false=>
     rw [h] at q a
     rw [Bool.not_false,Bool.true_or] at a
     have d:=of_decide_eq_true a.symm;have m:=hideS (A.out (by omega))
     clear a d h
     go_wp2_with (first | (go_at_call 70;refine (o.out _).mono ?_;rintro e f ⟨rfl,rfl⟩) | (go_at_call 71;refine (q.out _).mono ?_;rintro e f ⟨rfl,rfl⟩))
     go_ret
     exact⟨by rw [m.out]<;>rfl,rfl⟩
    | true=>
     rw [h] at q a
     rw [Bool.not_true,Bool.false_or,Bool.not_not] at a
     clear h;cases s:decide (kind=4) with
     | false=>
      rw [s,Bool.false_and] at a
      have d:=of_decide_eq_false a.symm;have V:(kind==4)=false:=beq_eq_false_iff_ne.2 (of_decide_eq_false s);clear a s
      go_wp2_with (first | (go_at_call 70;refine (o.out _).mono ?_;rintro e f ⟨rfl,rfl⟩) | (go_at_call 71;refine (q.out _).mono ?_;rintro e f ⟨rfl,rfl⟩))
      go_round
      case rel=>exact⟨k+1,by omega,by simp⟩
      case measure=>simp [intOf];omega
     | true=>
      rw [s,Bool.true_and] at a
      obtain rfl:=of_decide_eq_true s;clear s;cases S:(FloatKind.f64.format.order y 0==some .lt)<;>cases J:(FloatKind.f64.format.order y 0==some .eq)
      all_goals
       rw [S,J] at a
      ·have d:=of_decide_eq_false a.symm;clear a
       go_wp2_with (first | (go_at_call 70;refine (o.out _).mono ?_;rintro e f ⟨rfl,rfl⟩) | (go_at_call 71;refine (q.out _).mono ?_;rintro e f ⟨rfl,rfl⟩))
       go_round
       case rel=>exact⟨k+1,by omega,by simp⟩
       case measure=>simp [intOf];omega
      all_goals
       have d:=of_decide_eq_true a.symm;have m:=hideS (A.out (by omega))
       clear a d
       go_wp2_with (first | (go_at_call 70;refine (o.out _).mono ?_;rintro e f ⟨rfl,rfl⟩) | (go_at_call 71;refine (q.out _).mono ?_;rintro e f ⟨rfl,rfl⟩))
       go_ret
       exact⟨by rw [m.out]<;>rfl,rfl⟩
  ·obtain rfl:k=n:=by omega
   obtain rfl:K=k:=by omega
   have m:=hideS (Q.out rfl)
   go_wp2_with fail
   go_ret
   exact⟨by rw [m.out]<;>rfl,rfl⟩
theorem qC (k:Int) (w:World) (h:k<1\/4<k) :
  Calls Tryz.prog 198 #[.int .i64 k] w fun e a=>e=.returned .nilFunc/\a=w:=by
 have d:(k==1)=false:=beq_eq_false_iff_ne.2 (by omega)
 have c:(k==2)=false:=beq_eq_false_iff_ne.2 (by omega)
 have f:(k==3)=false:=beq_eq_false_iff_ne.2 (by omega)
 have b:(k==4)=false:=beq_eq_false_iff_ne.2 (by omega)
 clear h
 go_enter Tryz.func198,Tryz.ntmps198
 go_wp2_with fail
 go_ret
 exact⟨rfl,rfl⟩
def iR (kind:Int):Nat:=if kind=1 then 212 else if kind=2 then 213 else if kind=3 then 214 else 215
theorem qD (k:Int) (w:World) (c:1<=k) (b:k<=4) :
  Calls Tryz.prog 198 #[.int .i64 k] w fun e a=>e=.returned (.func (.func (iR k)) #[] #[])/\a=w:=by
 rcases (show k=1\/k=2\/k=3\/k=4 by omega) with rfl | rfl | rfl | rfl
 all_goals
  clear c b
  go_enter Tryz.func198,Tryz.ntmps198
  go_wp2_with fail
  go_ret
  exact⟨rfl,rfl⟩
end Go.Proofs.YtfdddijdjpijbaaGreat
