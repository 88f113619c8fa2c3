/-  -/
import Derived.Test.YtfdddijdjpijbaaGreatHbc
import Derived.Test.YtfdddijdjpijbaaGreatHbk
import Derived.Test.YtfdddijdjpijbaaGreatHaz
import Derived.Test.YtfdddijdjpijbaaGreatHbi
import Derived.Test.YtfdddijdjpijbaaGreatHar
import Derived.Test.YtfdddijdjpijbaaGreatHba
set_option maxHeartbeats 6400000
namespace Go.Proofs.YtfdddijdjpijbaaGreat
open Go.RowKit
def wAt (a:List Int) (ys:List Nat):Nat->A.St
 | 0=>⟨0,0⟩
 | k+1=>(wAt a ys k).merge (A.bn (fi (a.getD k 0)) (ys.getD k 0))
theorem jq (W ox cx P U cy n d:Nat) (g:List Int) (ys:List Nat) (w:World) (hX:VSrc w (some ⟨W,ox,none⟩) W ox n (xV g)) (hY:VSrc w (some ⟨P,U,none⟩) P U n (yV ys)) (hn:1<=n) (bs:n<=10) (hw:∀ i<n,-9007199254740992<=g.getD i 0/\g.getD i 0<=9007199254740992) (hy:∀ i<n,ys.getD i 0<18446744073709551616) (hd:1<=d) (bh:d<=9223372036854775807) :
  Calls Tryz.prog 146 #[.slice (some ⟨W,ox,none⟩) n cx,.slice (some ⟨P,U,none⟩) n cy,.int .i64 (d:Int)] w fun e w'=>e=.returned (.int .u64 (aQ (wAt g ys n) d:Int))/\Below w.heap.size w w':=by
 have HX:=hideS hX;have HY:=hideS hY;have HW:=hideS hw;have bb:=hideS hy;have H0:=hideS (Jg w);obtain⟨ba,v⟩:∃ ba:Int,(aQ (wAt g ys n) d:Int)=ba:=⟨_,rfl⟩;have Z:=hideS v;rw [v];clear hX hY hw hy v
 go_enter Tryz.func146,Tryz.ntmps146
 go_wp2_with fail
 go_loopw [8] (fun i wr=>∃ k:Nat,k<=n/\i=.int .i64 k/\Hid (Held w wr w.heap.size (wAt g ys k) k)) (fun i _=>n - (intOf i).toNat)
 case atStart=>exact⟨0,Nat.zero_le _,rfl,H0⟩
 case round=>
  clear H0;obtain⟨k,hk,rfl,HH⟩:=hrel;obtain⟨⟨neg,va,M,ee,G,q,I,t⟩,f,J,h⟩:=HH.out;have u:=eF G
  by_cases F:k<n
  ·have bv:wr.cell? ⟨W,ox+k,none⟩=some (.int .i64 (g.getD k 0)):=(f.cell (p:=⟨W,ox+k,none⟩) (HX.out.lt (by omega))).trans (HX.out.cell k F)
   have ai:wr.cell? ⟨P,U+k,none⟩=some (.int .u64 ((ys.getD k 0:Nat):Int)):=(f.cell (p:=⟨P,U+k,none⟩) (HY.out.lt (by omega))).trans (HY.out.cell k F)
   have as:P<wr.heap.size:=Nat.lt_of_lt_of_le (HY.out.lt (by omega)) f.size
   have ab:W<wr.heap.size:=Nat.lt_of_lt_of_le (HX.out.lt (by omega)) f.size
   have O:=HW.out k F;have H:=bb.out k F;have HI:=hideS fun wx=>cY (g.getD k 0) wx (by omega) (by omega)
   have Q:=kw O.1 O.2;obtain⟨x,K⟩:∃ x,fi (g.getD k 0)=x:=⟨_,rfl⟩;obtain⟨xi,D⟩:∃ xi:Int,xi=(x:Int):=⟨_,rfl⟩;obtain⟨y,B⟩:∃ y,ys.getD k 0=y:=⟨_,rfl⟩;obtain⟨yi,C⟩:∃ yi:Int,yi=(y:Int):=⟨_,rfl⟩;have ac:Hid (wAt g ys (k+1)=(wAt g ys k).merge (A.bn x y)):=by show _=_;rw [<- K,<- B];rfl
   rw [K] at HI Q
   rw [B] at H
   rw [B,<- C] at ai
   rw [<- D] at HI
   have bo:=hideS D;have bc:=hideS C;have HU:Hid (U64 xi):=by show U64 _;rw [D];exact aU Q
   have bi:Hid (U64 yi):=by show U64 _;rw [C];exact aU H
   generalize g.getD k 0=wk at *
   obtain⟨a,am⟩:∃ a,wAt g ys k=a:=⟨_,rfl⟩;rw [am] at t u G ac
   obtain⟨V,T,R,rfl⟩:=q.shape;have bk:Hid (∀ m,Below wr.heap.size wr m->Calls Tryz.prog 67 #[AV (a.s:Int) neg (.slice V T R) ee,.int .u64 xi,.int .u64 yi] m (cw m (.slice V T R) M (wAt g ys (k+1)) (k+1))):=fun m j=>by
    have:=OG a.s neg (.slice V T R) M ee a.N k x y xi yi m (q.below j) t (oS (by omega)) HU.out bi.out bo bc
    rw [Jh,<- ac.out] at this
    exact this
   have X:Hid (∀ m,Below wr.heap.size wr m->∀ S r,cw m (.slice V T R) M (wAt g ys (k+1)) (k+1) r S->∃ z p l c e',r=.returned (AV ((wAt g ys (k+1)).s:Int) z (.slice p l c) e')/\Held4 S w.heap.size (a.s:Int) neg (.slice V T R) ee/\Held w (put4 S w.heap.size ((wAt g ys (k+1)).s:Int) z (.slice p l c) e') w.heap.size (wAt g ys (k+1)) (k+1)):=fun m j S r o=>
    xZ (wr:=m) (by rw [j.block w.heap.size h];exact G) I (f.trans (j.mono f.size)) J (Nat.lt_of_lt_of_le h j.size) o
   have q0:=u.c0;have q1:=u.c1;have q2:=u.c2;have q3:=u.c3;have Y:=hideS (And.intro h (And.intro ab as));have g3:(0:Int)<=(k:Int):=by omega
   have g4:(k:Int)<(n:Int):=by omega
   clear K D am q t G I J h u HH B C O H Q as ab f
   go_wp2_with fail
   go_region_with (first | ((go_at_call 101;refine (HI.out _).mono ?_;rintro r m ⟨rfl,j⟩;have b:Below wr.heap.size wr m:=((Below.refl wr.heap.size wr).drew.trans j);have L:=hideS b;have c0:=(b.cell (p:=⟨w.heap.size,0,none⟩) Y.out.1).trans q0;have c1:=(b.cell (p:=⟨w.heap.size,1,none⟩) Y.out.1).trans q1;have c2:=(b.cell (p:=⟨w.heap.size,2,none⟩) Y.out.1).trans q2;have c3:=(b.cell (p:=⟨w.heap.size,3,none⟩) Y.out.1).trans q3;have br:=(b.cell (p:=⟨P,U+k,none⟩) Y.out.2.2).trans ai;have ad:=hideS (bk.out m b);clear j b)) | ((go_at_call 67;refine ad.out.mono ?_;intro r S o;obtain⟨z,p4,l4,c4,e4,rfl,E,hH⟩:=X.out m L.out S r o;have HH:=hideS hH;have k0:=E.c0;have k1:=E.c1;have k2:=E.c2;have k3:=E.c3;have l0:=E.f0;have l1:=E.f1;have l2:=E.f2;have l3:=E.f3;clear o hH E)))
   all_goals
    go_wp2_with fail
    go_roundw
    case rel=>exact⟨k+1,by omega,by simp,HH⟩
    case measure=>simp [intOf];omega
  ·obtain rfl:k=n:=by omega
   obtain⟨V,T,R,rfl⟩:=q.shape;have q0:=u.c0;have q1:=u.c1;have q2:=u.c2;have q3:=u.c3;have HV:=hideS (Po _ neg _ M ee _ k d wr q t (oS (by omega)) hd bh)
   rw [Jh,Z.out] at HV
   have al:=hideS f;have bz:¬ (k:Int)<(k:Int):=by omega
   clear q t G I f J h u HH
   go_wp2_with fail
   refine HV.out.mono ?_
   rintro r m ⟨rfl,G⟩;have L:=hideS (al.out.trans (G.mono al.out.size));clear G
   go_wp2_with fail
   go_ret
   exact⟨rfl,L.out⟩
def lK (w:World) (kind:Int) (b d:Value) (x k E:Int):Prop:=∀ a,Below w.heap.size w a->Calls Tryz.prog 145 #[.agg #[.int .i64 kind,b,d],.int .i64 x] a fun e c=>e=.returned (.tuple #[.int .i64 k,.int .i64 E])/\Below a.heap.size a c
theorem Pp (kind x k E:Int) (a c:Value) (w:World) (f:E≠0) (H:Hid (lK w kind a c x k E)) :
  Calls Tryz.prog 107 #[.agg #[.int .i64 kind,a,c],.int .i64 x] w fun e h=>e=.returned (.tuple #[.int .u64 0,.int .i64 E])/\Below w.heap.size w h:=by
 have d:=hideS (bU w kind a c);have g:(E !=0)=true:=bne_iff_ne.2 f;unfold lK at H
 clear f
 go_enter Tryz.func107,Tryz.ntmps107
 go_wp2_with (go_at_call 145;refine (H.out _ d.out.bl).mono ?_;rintro e i ⟨rfl,b⟩)
 go_ret2
 exact⟨rfl,(d.out.step b).bl⟩
theorem MY (kind x:Int) (g j cx l f cy n k:Nat) (d:Int) (y0:Nat) (w:World)
  (p:∀ c,Below w.heap.size w c->c.cell? ⟨g,j+k,none⟩=some (.int .i64 d)/\c.cell? ⟨l,f+k,none⟩=some (.int .u64 (y0:Int)))
  (v:k<n) (_:n<=256) (h:d=x\/(d≠x/\kind=1)) (H:Hid (lK w kind (.slice (some ⟨g,j,none⟩) n cx) (.slice (some ⟨l,f,none⟩) n cy) x (k:Int) 0)) :
  Calls Tryz.prog 107 #[.agg #[.int .i64 kind,.slice (some ⟨g,j,none⟩) n cx,.slice (some ⟨l,f,none⟩) n cy],.int .i64 x] w fun e c=>e=.returned (.tuple #[.int .u64 (y0:Int),.int .i64 0])/\Below w.heap.size w c:=by
 have i:=hideS (bU w kind (.slice (some ⟨g,j,none⟩) n cx) (.slice (some ⟨l,f,none⟩) n cy));unfold lK at H
 have o:=hideS p;have u:(0:Int)<=(k:Int):=by omega
 have y:(k:Int)<(n:Int):=by omega
 clear p;rcases h with h | ⟨h,q⟩
 ·subst h
  go_enter Tryz.func107,Tryz.ntmps107
  go_wp2_with fail
  refine (H.out _ i.out.bl).mono ?_
  rintro e m ⟨rfl,b⟩;have a:=hideS (i.out.step b);clear b;obtain⟨r,t,s,_,_⟩:=a.out;obtain⟨c0,c1⟩:=o.out m a.out.bl
  go_wp2_with fail
  go_ret2
  exact⟨rfl,a.out.bl⟩
 ·subst q;have z:(d==x)=false:=beq_false_of_ne h
  go_enter Tryz.func107,Tryz.ntmps107
  go_wp2_with fail
  refine (H.out _ i.out.bl).mono ?_
  rintro e m ⟨rfl,b⟩;have a:=hideS (i.out.step b);clear b;obtain⟨r,t,s,_,_⟩:=a.out;obtain⟨c0,c1⟩:=o.out m a.out.bl
  go_wp2_with fail
  go_ret2
  exact⟨rfl,a.out.bl⟩
theorem lL (w:World) (a b:Int):VSrc (w.alloc (.cells #[.int .i64 a,.int .i64 b] 3)) (some ⟨w.heap.size,0,none⟩) w.heap.size 0 2 (xV [a,b]):=
 ⟨fun _=>rfl,fun _=>by simp,fun j c=>by
  rcases (show j=0\/j=1 by omega) with rfl | rfl
  ·simp [xV]
  ·simp [xV]⟩
structure ARd (w:World) (B:Nat) (kind:Int) (vx vy:Value) (bx ox b2 oy k:Nat) (x0 x1:Int) (y0 y1:Nat):Prop where
 t0:w.cell? ⟨B,0,none⟩=some (.int .i64 kind)
 t1:w.cell? ⟨B,1,none⟩=some vx
 t2:w.cell? ⟨B,2,none⟩=some vy
 a0:w.cell? ⟨bx,ox+k,none⟩=some (.int .i64 x0)
 a1:w.cell? ⟨bx,ox+(k+1),none⟩=some (.int .i64 x1)
 b0:w.cell? ⟨b2,oy+k,none⟩=some (.int .u64 (y0:Int))
 b1:w.cell? ⟨b2,oy+(k+1),none⟩=some (.int .u64 (y1:Int))
 ly:b2<w.heap.size
theorem TBox.drewN {w wr:World} {kind:Int} {b a:Value} (h:TBox w kind b a wr) (m:Nat):TBox w kind b a (wr.drewN m):=⟨h.t0,h.t1,h.t2,⟨h.bl.os,h.bl.tape,h.bl.output,h.bl.size,h.bl.block⟩,h.lt⟩
theorem Pq (x:Int) (s r cx b a cy n k D:Nat) (g v i:Int) (y0 y1:Nat) (w:World)
  (U:∀ l,TBox w 2 (.slice (some ⟨s,r,none⟩) n cx) (.slice (some ⟨b,a,none⟩) n cy) l->ARd l w.heap.size 2 (.slice (some ⟨s,r,none⟩) n cx) (.slice (some ⟨b,a,none⟩) n cy) s r b a k g v y0 y1)
  (hk:k+1<n) (hn:n<=256) (Y:n<=cy) (L:cy<=9223372036854775807) (h0:0<=g) (h1:v<=109572) (hD:v - g=(D:Int)) (hi:x - g=i) (X:0<i) (ab:i<(D:Int)) (t:y0<18446744073709551616) (u:y1<18446744073709551616) (H:Hid (lK w 2 (.slice (some ⟨s,r,none⟩) n cx) (.slice (some ⟨b,a,none⟩) n cy) x (k:Int) 0)) :
  Calls Tryz.prog 107 #[.agg #[.int .i64 2,.slice (some ⟨s,r,none⟩) n cx,.slice (some ⟨b,a,none⟩) n cy],.int .i64 x] w fun e l=>e=.returned (.tuple #[.int .u64 (aQ (wAt [(D:Int) - i,i] [y0,y1] 2) D:Int),.int .i64 0])/\Below w.heap.size w l:=by
 have N:=hideS (bU w 2 (.slice (some ⟨s,r,none⟩) n cx) (.slice (some ⟨b,a,none⟩) n cy));unfold lK at H
 have K:=hideS U;have G:Hid (∀ c,b<c.heap.size->c.cell? ⟨b,a+k,none⟩=some (.int .u64 (y0:Int))->c.cell? ⟨b,a+(k+1),none⟩=some (.int .u64 (y1:Int))->Calls Tryz.prog 146 #[.slice (some ⟨c.heap.size,0,none⟩) 2 2,.slice (some ⟨b,a+k,none⟩) 2 (cy - k),.int .i64 (D:Int)] (c.alloc (.cells #[.int .i64 ((D:Int) - i),.int .i64 i] 3)) fun e l=>e=.returned (.int .u64 (aQ (wAt [(D:Int) - i,i] [y0,y1] 2) D:Int))/\Below c.heap.size c l):=fun c C c0 c1=>by
  have d:Below c.heap.size c (c.alloc (.cells #[.int .i64 ((D:Int) - i),.int .i64 i] 3)):=(Below.refl _ _).alloc (Nat.le_refl _) _;refine (jq c.heap.size 0 2 b (a+k) (cy - k) 2 D [(D:Int) - i,i] [y0,y1] _ (lL c _ _) ⟨fun _=>rfl,fun _=>Nat.lt_of_lt_of_le C d.size,fun j Q=>?_⟩ (by omega) (by omega) (fun j Q=>?_) (fun j Q=>?_) (by omega) (by omega)).mono ?_
  ·rcases (show j=0\/j=1 by omega) with rfl | rfl
   ·exact (d.cell (p:=⟨b,a+k,none⟩) C).trans c0
   ·rw [show a+k+1=a+(k+1) by omega];exact (d.cell (p:=⟨b,a+(k+1),none⟩) C).trans c1
  ·rcases (show j=0\/j=1 by omega) with rfl | rfl
   ·show -9007199254740992<=(D:Int) - i/\_;exact⟨by omega,by show (D:Int) - i<=_;omega⟩
   ·show -9007199254740992<=i/\i<=_;omega
  ·rcases (show j=0\/j=1 by omega) with rfl | rfl
   ·exact t
   ·exact u
  ·rintro e l ⟨rfl,Z⟩;exact⟨rfl,d.trans (Z.mono d.size)⟩
 generalize aQ (wAt [(D:Int) - i,i] [y0,y1] 2) D=R at *
 have f1:IntKind.i64.wrap ((k:Int)+1)=(k:Int)+1:=by rw [IntKind.wrap_i64];omega
 have f2:IntKind.i64.wrap (v - g)=v - g:=by rw [IntKind.wrap_i64];omega
 have g1:(0:Int)<=(k:Int)+1:=by omega
 have g2:(k:Int)+1<(n:Int):=by omega
 have g3:(0:Int)<=(k:Int):=by omega
 have g4:(k:Int)<(n:Int):=by omega
 have hx:(g==x)=false:=beq_false_of_ne (by omega)
 have V:(D:Int)<=109572:=by omega
 clear U t u
 go_enter Tryz.func107,Tryz.ntmps107
 go_wp2_with fail
 refine (H.out _ N.out.bl).mono ?_
 rintro e S ⟨rfl,z⟩;have m:=hideS (N.out.step z);clear z;have W:=K.out S m.out;obtain⟨M,T,F,O,P,E,I,A⟩:=W
 go_wp2_with fail
 go_quiet (fail)
 obtain⟨f,h⟩:∃ f,S.drewN nq=f:=⟨_,rfl⟩;rw [h];have q:Hid (TBox w 2 (.slice (some ⟨s,r,none⟩) n cx) (.slice (some ⟨b,a,none⟩) n cy) f):=by show TBox _ _ _ _ _;rw [<- h];exact m.out.drewN nq
 clear h M T F O P E I A m;obtain⟨M,T,F,O,P,E,I,A⟩:=K.out f q.out;have hz:w.heap.size<f.heap.size:=q.out.lt;have c2:∀ o,(f.alloc o).cell? ⟨w.heap.size,2,none⟩=some (.slice (some ⟨b,a,none⟩) n cy):=fun o=>(((Below.refl f.heap.size f).alloc (Nat.le_refl _) o).cell (p:=⟨w.heap.size,2,none⟩) hz).trans F
 have B:=hideS (G.out f A E I);have f3:IntKind.i64.wrap (x - g)=x - g:=by rw [IntKind.wrap_i64];omega
 have f4:IntKind.i64.wrap ((k:Int)+2)=(k:Int)+2:=by rw [IntKind.wrap_i64];omega
 have g7:(k:Int)+2<=(n:Int):=by omega
 have g8:(k:Int)<=(k:Int)+2:=by omega
 have g9:(k:Int)+2<=(cy:Int):=by omega
 go_wp2_with fail
 refine B.out.mono ?_
 rintro e w2 ⟨rfl,y⟩;have J:=hideS (q.out.step y);clear y
 go_wp2_with fail
 go_ret2
 exact⟨rfl,J.out.bl⟩
theorem sF {a b A B:Int} (f:0<=a) (e:a<=A) (c:0<=b) (d:b<=B):0<=a*b/\a*b<=A*B:=⟨Int.mul_nonneg f c,Int.mul_le_mul e d c (by omega)⟩
theorem Jm (w:World) (a b c d:Int):VSrc (w.alloc (.cells #[.int .i64 a,.int .i64 b,.int .i64 c,.int .i64 d] 3)) (some ⟨w.heap.size,0,none⟩) w.heap.size 0 4 (xV [a,b,c,d]):=
 ⟨fun _=>rfl,fun _=>by simp,fun j e=>by
  rcases (show j=0\/j=1\/j=2\/j=3 by omega) with rfl | rfl | rfl | rfl
  ·simp [xV]
  ·simp [xV]
  ·simp [xV]
  ·simp [xV]⟩
structure CubW (D i e q1 q2 r1 r2 r3 s2 s3 t1 t2 n1 n2:Int):Prop where
 hq1:e*e=q1
 hq2:q1*e=q2
 hr1:3*e=r1
 hr2:r1*e=r2
 hr3:r2*i=r3
 hs2:r1*i=s2
 hs3:s2*i=s3
 ht1:i*i=t1
 ht2:t1*i=t2
 hn1:D*D=n1
 hn2:n1*D=n2
 b:(0<=q1/\q1<=12006023184)/\(0<=q2/\q2<=1315523972317248)/\(0<=r1/\r1<=328716)/\(0<=r2/\r2<=36018069552)/\(0<=r3/\r3<=3946571916951744)/\(0<=s2/\s2<=36018069552)/\(0<=s3/\s3<=3946571916951744)/\(0<=t1/\t1<=12006023184)/\(0<=t2/\t2<=1315523972317248)/\(0<=n1/\n1<=12006023184)/\(0<=n2/\n2<=1315523972317248)
theorem vJ {D i e:Int} (d:0<=i) (hi:i<=109572) (a:0<=e) (f:e<=109572) (c:0<=D) (m:D<=109572):∃ o s u t q r w t1 A y v,CubW D i e o s u t q r w t1 A y v:=by
 have g:=sF a f a f;have p:=sF g.1 g.2 a f;have k:=sF (show 0<=3*e by omega) (show 3*e<=328716 by omega) a f
 have n:=sF k.1 k.2 d hi;have l:=sF (show 0<=3*e by omega) (show 3*e<=328716 by omega) d hi
 have x:=sF l.1 l.2 d hi;have j:=sF d hi d hi;have z:=sF j.1 j.2 d hi;have b:=sF c m c m;have h:=sF b.1 b.2 c m;exact⟨_,_,_,_,_,_,_,_,_,_,_,rfl,rfl,rfl,rfl,rfl,rfl,rfl,rfl,rfl,rfl,rfl,g,p,⟨by omega,by omega⟩,k,n,l,x,j,z,b,h⟩
theorem Pr (x:Int) (u t cx C B cy n k D z:Nat) (m I i e q1 r r1 r2 l s2 q S a n1:Int) (ps:List Nat) (w:World)
  (hR:∀ d,TBox w 3 (.slice (some ⟨u,t,none⟩) n cx) (.slice (some ⟨C,B,none⟩) n cy) d->d.cell? ⟨u,t+k,none⟩=some (.int .i64 m)/\d.cell? ⟨u,t+(k+1),none⟩=some (.int .i64 I))
  (hk:k+1<n) (hn:n<=256) (h0:0<=m) (h1:I<=109572) (hD:I - m=(D:Int)) (hi:x - m=i) (he:(D:Int) - i=e) (bi:0<i) (cp:i<(D:Int)) (hC:CubW (D:Int) i e q1 r r1 r2 l s2 q S a n1 (z:Int)) (Y:1<=z) (K:ps.length=4) (A:∀ j<4,ps.getD j 0<18446744073709551616)
  (H:Hid (lK w 3 (.slice (some ⟨u,t,none⟩) n cx) (.slice (some ⟨C,B,none⟩) n cy) x (k:Int) 0))
  (F:Hid (∀ b,Below w.heap.size w b->Calls Tryz.prog 147 #[.agg #[.int .i64 3,.slice (some ⟨u,t,none⟩) n cx,.slice (some ⟨C,B,none⟩) n cy],.int .i64 (k:Int)] b fun e d=>∃ v,e=.returned (.tuple #[v,.int .i64 0])/\d.ownsRow b.heap.size 41 1 v 4 (ps.map uV)/\Below b.heap.size b d)) :
  Calls Tryz.prog 107 #[.agg #[.int .i64 3,.slice (some ⟨u,t,none⟩) n cx,.slice (some ⟨C,B,none⟩) n cy],.int .i64 x] w fun e d=>e=.returned (.tuple #[.int .u64 (aQ (wAt [r,l,q,a] ps 4) z:Int),.int .i64 0])/\Below w.heap.size w d:=by
 have HB:=hideS (bU w 3 (.slice (some ⟨u,t,none⟩) n cx) (.slice (some ⟨C,B,none⟩) n cy));unfold lK at H
 have HR:=hideS hR;obtain⟨cf,bc,cl,al,as,cr,am,cd,bv,bo,bb,⟨p1,br⟩,⟨p2,cs⟩,⟨p3,bz⟩,⟨p4,bh⟩,⟨p5,cc⟩,⟨p6,ai⟩,⟨p7,bs⟩,⟨p8,ci⟩,⟨p9,ba⟩,⟨ca,ac⟩,⟨cm,ab⟩⟩:=hC;have G:Hid (∀ b g c,g<b.heap.size->(∀ j<4,b.cell? ⟨g,j,none⟩=some (.int .u64 (ps.getD j 0:Nat)))->Calls Tryz.prog 146 #[.slice (some ⟨b.heap.size,0,none⟩) 4 4,.slice (some ⟨g,0,none⟩) 4 c,.int .i64 (z:Int)] (b.alloc (.cells #[.int .i64 r,.int .i64 l,.int .i64 q,.int .i64 a] 3)) fun e d=>e=.returned (.int .u64 (aQ (wAt [r,l,q,a] ps 4) z:Int))/\Below b.heap.size b d):=fun b g c hl hc=>by
  have s:Below b.heap.size b (b.alloc (.cells #[.int .i64 r,.int .i64 l,.int .i64 q,.int .i64 a] 3)):=(Below.refl _ _).alloc (Nat.le_refl _) _;refine (jq b.heap.size 0 4 g 0 c 4 z [r,l,q,a] ps _ (Jm b _ _ _ _) ⟨fun _=>rfl,fun _=>Nat.lt_of_lt_of_le hl s.size,fun j N=>?_⟩ (by omega) (by omega) (fun j N=>?_) A Y (by omega)).mono ?_
  ·rw [Nat.zero_add];exact (s.cell (p:=⟨g,j,none⟩) hl).trans (hc j N)
  ·rcases (show j=0\/j=1\/j=2\/j=3 by omega) with rfl | rfl | rfl | rfl
   ·show -9007199254740992<=r/\r<=_;omega
   ·show -9007199254740992<=l/\l<=_;omega
   ·show -9007199254740992<=q/\q<=_;omega
   ·show -9007199254740992<=a/\a<=_;omega
  ·rintro e d ⟨rfl,hb⟩;exact⟨rfl,s.trans (hb.mono s.size)⟩
 generalize aQ (wAt [r,l,q,a] ps 4) z=R at *
 have h:=hideS (And.intro K A);have f1:IntKind.i64.wrap ((k:Int)+1)=(k:Int)+1:=by rw [IntKind.wrap_i64];omega
 have f2:IntKind.i64.wrap (I - m)=I - m:=by rw [IntKind.wrap_i64];omega
 have f3:IntKind.i64.wrap (x - m)=x - m:=by rw [IntKind.wrap_i64];omega
 have g1:(0:Int)<=(k:Int)+1:=by omega
 have g2:(k:Int)+1<(n:Int):=by omega
 have g3:(0:Int)<=(k:Int):=by omega
 have g4:(k:Int)<(n:Int):=by omega
 have hx:(m==x)=false:=beq_false_of_ne (by omega)
 have ad:(D:Int)<=109572:=by omega
 have cq:0<=e:=by omega
 have bk:e<=109572:=by omega
 clear hR K A
 go_enter Tryz.func107,Tryz.ntmps107
 go_wp2_with fail
 refine (H.out _ HB.out.bl).mono ?_
 rintro e w1 ⟨rfl,L⟩;have o:=hideS (HB.out.step L);clear L;obtain⟨U,V⟩:=HR.out w1 o.out;obtain⟨Q,Z,T,_,_⟩:=o.out
 go_wp2_with fail
 go_quiet (fail)
 obtain⟨M,y⟩:∃ M,w1.drewN nq=M:=⟨_,rfl⟩;rw [y];have f:Hid (TBox w 3 (.slice (some ⟨u,t,none⟩) n cx) (.slice (some ⟨C,B,none⟩) n cy) M):=by show TBox _ _ _ _ _;rw [<- y];exact o.out.drewN nq
 clear y Q Z T U V o;obtain⟨U,V⟩:=HR.out M f.out;obtain⟨Q,Z,T,_,_⟩:=f.out
 go_wp2_with fail
 refine (F.out _ f.out.bl).mono ?_
 rintro e w2 ⟨v,rfl,ho,J⟩;obtain⟨pp,g,c,rfl,O,_,_,_⟩:=bq ho h.out.1;obtain rfl:=O.at_ (by rw [h.out.1];omega)
 have X:=hideS (f.out.step J);have P:=hideS (G.out w2 g c (O.lt (by rw [h.out.1];omega)) (fun j N=>by have:=O.cell j (by rw [h.out.1];exact N);rw [Nat.zero_add] at this;exact this))
 clear J ho O Q Z T U V f G F
 go_wp2_with fail
 refine P.out.mono ?_
 rintro e w3 ⟨rfl,E⟩;have W:=hideS (X.out.step E);clear E
 go_wp2_with fail
 go_ret2
 exact⟨rfl,W.out.bl⟩
theorem Fo {a b:Int} {p q:Nat} (d:a+1074=(p:Int)) (c:b+1074=(q:Int)):(a+b+2148).toNat=p+q:=by omega
theorem Fp {x y:Nat} (v:x<18446744073709551616) (c:ag x) (u:y<18446744073709551616) (h:ag y):A.bn x y=⟨0,vI x*vI y⟩:=by
 obtain⟨l,d,q,r⟩:=Jr v c;obtain⟨n,i,p,j⟩:=Jr u h;have o:A.bn x y=A.fR (x:Int) (y:Int):=by unfold A.bn;rw [l,n];rfl
 have e:az (x:Int)*az (y:Int)*2^(aP (x:Int)+aP (y:Int)+2148).toNat=vI x*vI y:=by
  rw [<- q,<- p]
  by_cases g:az (x:Int)=0
  ·rw [g,Int.zero_mul,Int.zero_mul,Int.zero_mul,Int.zero_mul]
  ·by_cases f:az (y:Int)=0
   ·rw [f,Int.zero_mul,Int.mul_zero,Int.zero_mul,Int.mul_zero]
   ·have a:=r g;have b:=j f;rw [Fo a b,Int.pow_add,Int.natCast_pow,Int.natCast_pow];clear o q p r j a b g f l n;generalize az (x:Int)=m;generalize az (y:Int)=k
    show m*k*(2^d*2^i)=m*2^d*(k*2^i)
    generalize (2:Int)^d=s;generalize (2:Int)^i=t;simp only [Int.mul_assoc,Int.mul_left_comm k]
 rw [o];exact congrArg (A.St.mk 0) e
theorem gV {m:Int} {y K:Nat} (g:K=1074) (i: -9007199254740992<=m) (h:m<=9007199254740992) (f:y<18446744073709551616) (e:ag y):A.bn (fi m) y=⟨0,m*uI K y⟩:=by
 obtain⟨a,b,c,d⟩:=nJ (m:=m) g i h;rw [Fp d b f e,a];unfold uI
 congr 1
 rw [Int.mul_assoc,Int.mul_comm (((2^K:Nat)):Int)]
theorem mT (a b:Int):A.St.merge ⟨0,a⟩ ⟨0,b⟩=⟨0,a+b⟩:=rfl
theorem vN {a b:Int} {y0 y1 K:Nat} (e:K=1074) (d: -9007199254740992<=a/\a<=9007199254740992) (c: -9007199254740992<=b/\b<=9007199254740992) (f:y0<18446744073709551616) (g:ag y0) (i:y1<18446744073709551616) (h:ag y1):wAt [a,b] [y0,y1] 2=⟨0,a*uI K y0+b*uI K y1⟩:=by
 show ((⟨0,0⟩:A.St).merge (A.bn (fi a) y0)).merge (A.bn (fi b) y1)=_
 rw [gV e d.1 d.2 f g,gV e c.1 c.2 i h,mT,mT,Int.zero_add]
theorem yj {a b c d:Int} {y0 y1 e f K:Nat} (g:K=1074) (j: -9007199254740992<=a/\a<=9007199254740992) (h: -9007199254740992<=b/\b<=9007199254740992) (hc: -9007199254740992<=c/\c<=9007199254740992) (i: -9007199254740992<=d/\d<=9007199254740992) (k:y0<18446744073709551616) (o:ag y0) (n:y1<18446744073709551616) (r:ag y1) (m:e<18446744073709551616) (p:ag e) (q:f<18446744073709551616) (l:ag f):wAt [a,b,c,d] [y0,y1,e,f] 4=⟨0,a*uI K y0+b*uI K y1+c*uI K e+d*uI K f⟩:=by
 show ((((⟨0,0⟩:A.St).merge (A.bn (fi a) y0)).merge (A.bn (fi b) y1)).merge (A.bn (fi c) e)).merge (A.bn (fi d) f)=_
 rw [gV g j.1 j.2 k o,gV g h.1 h.2 n r,gV g hc.1 hc.2 m p,gV g i.1 i.2 q l,mT,mT,mT,mT,Int.zero_add]
theorem kQ (N:Int) (d:Nat):aQ ⟨0,N⟩ d=overG N d:=by
 unfold aQ overG;rw [if_pos rfl,mR]
structure Inside (xs:List Int) (x:Int) (k D:Nat) (i:Int):Prop where
 lt:k+1<xs.length
 hD:xs.getD (k+1) 0 - xs.getD k 0=(D:Int)
 hi:x - xs.getD k 0=i
 lo:0<i
 hi':i<(D:Int)
theorem Fq {xs:List Int} {x:Int} {k:Nat} (b:x<=xs.getD (xs.length - 1) 0) (a:FindR xs x k) (g:xs.getD k 0≠x):∃ D i,Inside xs x k D i:=by
 have f:=a.le;have d:k+1<xs.length:=Classical.byContradiction fun c=>by
  have e:=a.lt;rw [show xs.length - 1=k by omega] at b
  omega
 have h:=a.gt d;exact⟨(xs.getD (k+1) 0 - xs.getD k 0).toNat,_,d,by omega,rfl,by omega,by omega⟩
def linV (ys:List Nat) (k D:Nat) (i:Int):Nat:=aQ (wAt [(D:Int) - i,i] [ys.getD k 0,ys.getD (k+1) 0] 2) D
theorem yk (kind x k E:Int) (a b:Option Addr) (d f cx g c cy:Nat) (xs:List Int) (ys:List Nat) (w:World) (h:FindO kind xs ys x k E) (m:E≠0) (n:TSrc w a b d f g c xs ys) :
  Calls Tryz.prog 107 #[.agg #[.int .i64 kind,.slice a xs.length cx,.slice b ys.length cy],.int .i64 x] w fun e l=>e=.returned (.tuple #[.int .u64 0,.int .i64 E])/\Below w.heap.size w l:=
 Pp kind x k E _ _ w m (fun i j=>cM kind x k E a b d f cx g c cy xs ys i h (n.below j))
theorem lM (kind x:Int) (c d:Option Addr) (g l cx m f cy n k:Nat) (xs:List Int) (ys:List Nat) (w:World) (h:OkT kind xs ys) (hn:xs.length=n) (q:FindO kind xs ys x (k:Int) 0) (r:k<n) (j:xs.getD k 0=x\/(xs.getD k 0≠x/\kind=1)) (a:TSrc w c d g l m f xs ys) :
  Calls Tryz.prog 107 #[.agg #[.int .i64 kind,.slice c n cx,.slice d n cy],.int .i64 x] w fun e o=>e=.returned (.tuple #[.int .u64 (ys.getD k 0:Nat),.int .i64 0])/\Below w.heap.size w o:=by
 have i:=h.len;have s:=h.hi;have H:lK w kind (.slice c n cx) (.slice d n cy) x (k:Int) 0:=fun p b=>by
  have:=cM kind x k 0 c d g l cx m f cy xs ys p q (a.below b);rw [i,hn] at this
  exact this
 obtain rfl:=a.x.at_ (by omega)
 obtain rfl:=a.y.at_ (by omega)
 exact MY kind x g l cx m f cy n k (xs.getD k 0) (ys.getD k 0) w (fun o b=>⟨(a.below b).x.cell k (by omega),(a.below b).y.cell k (by omega)⟩) r (by omega) j H
theorem yl (x:Int) (j l:Option Addr) (o r cx s m cy n k D:Nat) (i:Int) (xs:List Int) (ys:List Nat) (w:World) (h:OkT 2 xs ys) (hn:xs.length=n) (A:FindO 2 xs ys x (k:Int) 0) (c:Inside xs x k D i) (q:n<=cy) (d:cy<=9223372036854775807) (b:TSrc w j l o r s m xs ys) :
  Calls Tryz.prog 107 #[.agg #[.int .i64 2,.slice j n cx,.slice l n cy],.int .i64 x] w fun e t=>e=.returned (.tuple #[.int .u64 (linV ys k D i:Int),.int .i64 0])/\Below w.heap.size w t:=by
 have p:=h.len;have B:=h.hi;have E:=c.lt;have H:lK w 2 (.slice j n cx) (.slice l n cy) x (k:Int) 0:=fun u z=>by
  have:=cM 2 x k 0 j l o r cx s m cy xs ys u A (b.below z);rw [p,hn] at this
  exact this
 obtain rfl:=b.x.at_ (by omega)
 obtain rfl:=b.y.at_ (by omega)
 have v:=ap (h.node k (by omega))
 have C:=ap (h.node (k+1) (by omega))
 exact Pq x o r cx s m cy n k D (xs.getD k 0) (xs.getD (k+1) 0) i (ys.getD k 0) (ys.getD (k+1) 0) w (fun t g=>by
   have a:=b.below g.bl;exact⟨g.t0,g.t1,g.t2,a.x.cell k (by omega),a.x.cell (k+1) (by omega),a.y.cell k (by omega),a.y.cell (k+1) (by omega),a.y.lt (by omega)⟩)
  (by omega) (by omega) q d v.1 C.2.1 c.hD c.hi c.lo c.hi' (by have:=(b.f k (by omega)).2;omega) (by have:=(b.f (k+1) (by omega)).2;omega) H
def Bu (ps:List Nat) (D:Nat) (i:Int):Nat:=aQ (wAt [((D:Int) - i)*((D:Int) - i)*((D:Int) - i),3*((D:Int) - i)*((D:Int) - i)*i,3*((D:Int) - i)*i*i,i*i*i] ps 4) (D*D*D)
theorem Pv {xs:List Int} {ys:List Nat} {k:Nat} (b:ys.getD k 0<18446744073709551616) (a:ys.getD (k+1) 0<18446744073709551616):∀ j<4,(ptL xs ys k).getD j 0<18446744073709551616:=fun j c=>by
 rcases (show j=0\/j=1\/j=2\/j=3 by omega) with rfl | rfl | rfl | rfl
 ·exact b
 ·exact Be b a
 ·exact Ph a (Be b a)
 ·exact a
theorem ym (x:Int) (d g:Option Addr) (p q cx r o cy n k D:Nat) (i:Int) (xs:List Int) (ys:List Nat) (w:World) (h:OkT 3 xs ys) (hn:xs.length=n) (R:FindO 3 xs ys x (k:Int) 0) (l:Inside xs x k D i) (c:TSrc w d g p q r o xs ys) :
  Calls Tryz.prog 107 #[.agg #[.int .i64 3,.slice d n cx,.slice g n cy],.int .i64 x] w fun e m=>e=.returned (.tuple #[.int .u64 (Bu (ptL xs ys k) D i:Int),.int .i64 0])/\Below w.heap.size w m:=by
 have s:=h.len;have T:=h.hi;have V:=l.lt;have H:lK w 3 (.slice d n cx) (.slice g n cy) x (k:Int) 0:=fun b u=>by
  have:=cM 3 x k 0 d g p q cx r o cy xs ys b R (c.below u);rw [s,hn] at this
  exact this
 have K:∀ b,Below w.heap.size w b->Calls Tryz.prog 147 #[.agg #[.int .i64 3,.slice d n cx,.slice g n cy],.int .i64 (k:Int)] b fun e m=>∃ v,e=.returned (.tuple #[v,.int .i64 0])/\m.ownsRow b.heap.size 41 1 v 4 ((ptL xs ys k).map uV)/\Below b.heap.size b m:=fun b u=>qh 3 d g p q cx r o cy n k xs ys b h hn (c.below u) (by omega)
 obtain rfl:=c.x.at_ (by omega)
 obtain rfl:=c.y.at_ (by omega)
 have N:=ap (h.node k (by omega))
 have U:=ap (h.node (k+1) (by omega))
 have W:=l.hD;have A:=l.lo;have t:=l.hi';have z:ys.getD k 0<18446744073709551616:=by have:=(c.f k (by omega)).2;omega
 have B:ys.getD (k+1) 0<18446744073709551616:=by have:=(c.f (k+1) (by omega)).2;omega
 obtain⟨F,L,M,O,I,J,Q,Y,X,E,G,a⟩:=vJ (D:=(D:Int)) (i:=i) (e:=(D:Int) - i) (by omega) (by omega) (by omega) (by omega) (by omega) (by omega)
 have S:G=((D*D*D:Nat):Int):=by rw [<- a.hn2,<- a.hn1,Int.natCast_mul,Int.natCast_mul]
 rw [S] at a
 have C:1<=D*D*D:=Nat.mul_pos (Nat.mul_pos (by omega) (by omega)) (by omega)
 unfold Bu;rw [a.hq1,a.hq2,a.hr1,a.hr2,a.hr3,a.hs2,a.hs3,a.ht1,a.ht2];exact Pr x p q cx r o cy n k D (D*D*D) (xs.getD k 0) (xs.getD (k+1) 0) i ((D:Int) - i) F L M O I J Q Y X E (ptL xs ys k) w (fun m P=>by
   have j:=c.below P.bl;exact⟨j.x.cell k (by omega),j.x.cell (k+1) (by omega)⟩)
  (by omega) (by omega) N.1 U.2.1 W l.hi rfl A t a C rfl (Pv z B) H K
structure NumW (y:Nat):Prop where
 lt:y<18446744073709551616
 nb:ag y
theorem mU {y0 y1 D K:Nat} {i:Int} (d:K=1074) (a:NumW y0) (b:NumW y1) (hi:0<=i) (c:i<=(D:Int)) (e:(D:Int)<=109572):aQ (wAt [(D:Int) - i,i] [y0,y1] 2) D=overG (eX (D:Int) i (uI K y0) (uI K y1)) D:=by
 rw [vN d ⟨by omega,by omega⟩ ⟨by omega,by omega⟩ a.lt a.nb b.lt b.nb,kQ]
 rfl
theorem tG {d f g c D K:Nat} {i:Int} (m:K=1074) (h:NumW d) (k:NumW f) (j:NumW g) (l:NumW c) (hi:0<=i) (p:i<=(D:Int)) (E:(D:Int)<=109572):Bu [d,f,g,c] D i=overG (eM (D:Int) i (uI K d) (uI K f) (uI K g) (uI K c)) (D*D*D):=by
 obtain⟨t,y,z,A,v,x,B,H,G,s,u,a⟩:=vJ (D:=(D:Int)) (i:=i) (e:=(D:Int) - i) (by omega) (by omega) (by omega) (by omega) (by omega) (by omega)
 unfold Bu eM;rw [a.hq1,a.hq2,a.hr1,a.hr2,a.hr3,a.hs2,a.hs3,a.ht1,a.ht2];obtain⟨⟨_,_⟩,⟨I,n⟩,⟨_,_⟩,⟨_,_⟩,⟨F,q⟩,⟨_,_⟩,⟨w,r⟩,⟨_,_⟩,⟨C,o⟩,_,_⟩:=a.b;rw [yj m ⟨by omega,by omega⟩ ⟨by omega,by omega⟩ ⟨by omega,by omega⟩ ⟨by omega,by omega⟩ h.lt h.nb k.lt k.nb j.lt j.nb l.lt l.nb,kQ]
theorem OI (D:Nat):((D*D*D:Nat):Int)=(D:Int)*(D:Int)*(D:Int):=by rw [Int.natCast_mul,Int.natCast_mul]
theorem yo {y0 y1 D K:Nat} {i:Int} (f:K=1074) (b:NumW y0) (c:NumW y1) (hi:0<=i) (d:i<=(D:Int)) (a:0<D) (h:ae (y0:Nat)<=ae (y1:Nat)) :
  ae (y0:Nat)<=gA (eX (D:Int) i (uI K y0) (uI K y1)) D/\gA (eX (D:Int) i (uI K y0) (uI K y1)) D<=ae (y1:Nat):=by
 have g:=nQ K b.lt b.nb c.lt c.nb h;have e:=Jo (n:=(D:Int)) hi d g;exact⟨Dw f b.lt b.nb a e.1,Dx f c.lt c.nb a e.2⟩
theorem sG {y0 y1 D K:Nat} {i:Int} (f:K=1074) (b:NumW y0) (c:NumW y1) (hi:0<=i) (d:i<=(D:Int)) (a:0<D) (h:ae (y1:Nat)<=ae (y0:Nat)) :
  ae (y1:Nat)<=gA (eX (D:Int) i (uI K y0) (uI K y1)) D/\gA (eX (D:Int) i (uI K y0) (uI K y1)) D<=ae (y0:Nat):=by
 have g:=nQ K c.lt c.nb b.lt b.nb h;have e:=Pu (n:=(D:Int)) hi d g;exact⟨Dw f c.lt c.nb a e.1,Dx f b.lt b.nb a e.2⟩
structure Up4 (p0 p1 p2 p3:Nat):Prop where
 n0:NumW p0
 n1:NumW p1
 n2:NumW p2
 n3:NumW p3
 r1:ae (p0:Nat)<=ae (p1:Nat)
 r2:ae (p1:Nat)<=ae (p2:Nat)
 r3:ae (p2:Nat)<=ae (p3:Nat)
theorem yp {c g f b D K:Nat} {i:Int} (k:K=1074) (h:Up4 c g f b) (hi:0<=i) (e:i<=(D:Int)) (a:0<D) :
  ae (c:Nat)<=gA (eM (D:Int) i (uI K c) (uI K g) (uI K f) (uI K b)) (D*D*D)/\gA (eM (D:Int) i (uI K c) (uI K g) (uI K f) (uI K b)) (D*D*D)<=ae (b:Nat):=by
 have m:=nQ K h.n0.lt h.n0.nb h.n1.lt h.n1.nb h.r1;have l:=nQ K h.n1.lt h.n1.nb h.n2.lt h.n2.nb h.r2;have o:=nQ K h.n2.lt h.n2.nb h.n3.lt h.n3.nb h.r3;have d:=Ps (n:=(D:Int)) hi e m l o;have j:0<D*D*D:=Nat.mul_pos (Nat.mul_pos a a) a;rw [<- OI] at d
 exact⟨Dw k h.n0.lt h.n0.nb j d.1,Dx k h.n3.lt h.n3.nb j d.2⟩
structure Down4 (p0 p1 p2 p3:Nat):Prop where
 n0:NumW p0
 n1:NumW p1
 n2:NumW p2
 n3:NumW p3
 r1:ae (p1:Nat)<=ae (p0:Nat)
 r2:ae (p2:Nat)<=ae (p1:Nat)
 r3:ae (p3:Nat)<=ae (p2:Nat)
theorem sH {c g f b D K:Nat} {i:Int} (k:K=1074) (h:Down4 c g f b) (hi:0<=i) (e:i<=(D:Int)) (a:0<D) :
  ae (b:Nat)<=gA (eM (D:Int) i (uI K c) (uI K g) (uI K f) (uI K b)) (D*D*D)/\gA (eM (D:Int) i (uI K c) (uI K g) (uI K f) (uI K b)) (D*D*D)<=ae (c:Nat):=by
 have m:=nQ K h.n1.lt h.n1.nb h.n0.lt h.n0.nb h.r1;have l:=nQ K h.n2.lt h.n2.nb h.n1.lt h.n1.nb h.r2;have o:=nQ K h.n3.lt h.n3.nb h.n2.lt h.n2.nb h.r3;have d:=Pt (n:=(D:Int)) hi e m l o;have j:0<D*D*D:=Nat.mul_pos (Nat.mul_pos a a) a;rw [<- OI] at d
 exact⟨Dw k h.n3.lt h.n3.nb j d.1,Dx k h.n0.lt h.n0.nb j d.2⟩
structure NN (x:Nat):Prop where
 lt:x<18446744073709551616
 le:x % 9223372036854775808<=9218868437227405312
theorem NN.cases {x:Nat} (h:NN x):ag x\/x % 9223372036854775808=9218868437227405312:=by
 unfold ag;have:=h.le;omega
theorem NN.nan {x:Nat} (h:NN x):ah (x:Nat)=false:=by
 unfold ah szI;rw [decide_eq_false_iff_not];have:=h.le;omega
theorem QN {x:Nat} (a:x<18446744073709551616) (h:ah (x:Nat)=false):NN x:=by
 unfold ah szI at h;rw [decide_eq_false_iff_not] at h;exact⟨a,by omega⟩
theorem NumW.nn {x:Nat} (h:NumW x):NN x:=⟨h.lt,by have:=h.nb;unfold ag at this;omega⟩
theorem qu {s:Bool} {r:Nat} (h:r<=9218868437227405312):NN (wrd s r)/\sB (wrd s r)=s:=by
 unfold wrd sB;cases s
 ·exact⟨⟨by simp;omega,by simp;omega⟩,by simp;omega⟩
 ·refine⟨⟨by simp;omega,by simp;omega⟩,?_⟩
  rw [if_pos rfl,show (9223372036854775808+r) / 9223372036854775808 % 2=1 by omega];rfl
theorem qv {r:Nat} {k:Int} (h:RkW r k):NN r:=QN h.2.1 h.2.2
theorem DF {x y:Nat} (a:NumW x) (b:NumW y):NN (sSub x y):=by
 obtain⟨r,e,h⟩:=jr a.nb b.nb;unfold sSub;rw [e,ao];exact qv h
theorem iI {x y:Nat} (c:NN x) (a:NumW y) (b:y % 9223372036854775808≠0):NN (sDiv x y):=by
 unfold sDiv;rcases c.cases with h | h
 ·obtain⟨r,e,d⟩:=qt h a.nb b;rw [e,ao];exact qv d
 ·rw [Dm h a.nb,ao];exact (qu (by omega)).1
theorem jX {x y:Nat} (c:NN x) (a:NumW y) (b:y % 9223372036854775808≠0):NN (sMul x y):=by
 unfold sMul;rcases c.cases with h | h
 ·obtain⟨r,e,d⟩:=js h a.nb;rw [e,ao];exact qv d
 ·rw [(gk h a.nb b).1,ao];exact (qu (by omega)).1
theorem oT {x y:Nat} (b:NumW x) (a:NN y):NN (sAdd x y):=by
 unfold sAdd;rcases a.cases with h | h
 ·obtain⟨r,e,c⟩:=fS b.nb h;rw [e,ao];exact qv c
 ·rw [(lD h b.nb a.lt).2,ao];exact a
theorem tH {x y:Nat} (f:NN x) (i:NN y) (j:sB x=sB y):NN (sAdd x y):=by
 unfold sAdd;rcases f.cases with h | h<;>rcases i.cases with g | g
 ·obtain⟨r,e,k⟩:=fS h g;rw [e,ao];exact qv k
 ·rw [(lD g h i.lt).2,ao];exact i
 ·rw [(lD h g f.lt).1,ao];exact f
 ·have e:x=y:=by
   have a:=f.lt;have b:=i.lt;unfold sB at j
   have c:(x / 9223372036854775808 % 2==1)=(y / 9223372036854775808 % 2==1):=j;have d:x / 9223372036854775808 % 2=y / 9223372036854775808 % 2:=by
    rcases Nat.mod_two_eq_zero_or_one (x / 9223372036854775808) with p | p<;>rcases Nat.mod_two_eq_zero_or_one (y / 9223372036854775808) with q | q<;>rw [p,q] at c<;>simp_all
   omega
  rw [pU h g f.lt i.lt,if_pos e,ao];exact f
theorem qw {c a:Nat} (hc:ag c) (d:c % 9223372036854775808≠0) (b:sB c=false) (f:NN a) (e:a % 9223372036854775808≠0):NN (sDiv c a)/\sB (sDiv c a)=sB a:=by
 unfold sDiv;rcases f.cases with h | h
 ·have g:(mg (a % 9223372036854775808)).log2<53:=(Nat.log2_lt (fL e)).2 (by have:=nF (a % 9223372036854775808);omega)
  rw [jU hc h d e rfl rfl rfl rfl (k:=300) (by omega),ao,b,Bool.false_xor]
  exact qu (qp _ _)
 ·rw [pX hc h,ao,b,Bool.false_xor];exact qu (by omega)
theorem Jt {s:Nat} (b:NN s):NN (sDiv 4611686018427387904 s):=by
 by_cases a:s % 9223372036854775808=0
 ·unfold sDiv;rw [nL (by unfold ag;decide) (by decide) a,ao]
  exact (qu (by omega)).1
 ·exact (qw (by unfold ag;decide) (by decide) (by decide) b a).1
theorem iJ {a:Nat} (f:a<18446744073709551616) (h:ltB 0 (a:Nat)=true):a % 9223372036854775808≠0/\sB a=false:=by
 unfold ltB at h
 simp only [Bool.and_eq_true,Bool.not_eq_true',decide_eq_true_eq] at h
 obtain⟨⟨_,d⟩,b⟩:=h;have e:ae 0=0:=by decide
 rw [e] at b
 unfold ae at b
 rw [d,if_neg (by decide)] at b
 unfold sgB szI at b
 by_cases c:(9223372036854775808:Int)<=(a:Int)
 ·simp [c] at b;omega
 ·simp [c] at b
  refine⟨by omega,?_⟩
  unfold sB;rw [show a / 9223372036854775808 % 2=0 by omega];rfl
theorem oU {a:Nat} (f:a<18446744073709551616) (h:ltB (a:Nat) 0=true):a % 9223372036854775808≠0/\sB a=true:=by
 unfold ltB at h
 simp only [Bool.and_eq_true,Bool.not_eq_true',decide_eq_true_eq] at h
 obtain⟨⟨d,_⟩,b⟩:=h;have e:ae 0=0:=by decide
 rw [e] at b
 unfold ae at b
 rw [d,if_neg (by decide)] at b
 unfold sgB szI at b
 by_cases c:(9223372036854775808:Int)<=(a:Int)
 ·simp [c] at b
  refine⟨by omega,?_⟩
  unfold sB;rw [show a / 9223372036854775808 % 2=1 by omega];rfl
 ·simp [c] at b;omega
theorem Pw {a b:Nat} (m:NN a) (i:NN b):NN (slB a b):=by
 have d:ag 4607182418800017408:=by unfold ag;decide
 have c:a % 9223372036854775808≠0->b % 9223372036854775808≠0->sB a=sB b->NN (sDiv 4611686018427387904 (sAdd (sDiv 4607182418800017408 a) (sDiv 4607182418800017408 b))):=fun e g t=>by
  obtain⟨s,n⟩:=qw d (by decide) (by decide) m e
  obtain⟨q,p⟩:=qw d (by decide) (by decide) i g
  exact Jt (tH s q (by rw [n,p,t]))
 have h:=IJ a b;generalize slB a b=z at *
 cases h with
 | up e g=>
  obtain⟨f,k⟩:=iJ m.lt e;obtain⟨j,l⟩:=iJ i.lt g;exact c f j (by rw [k,l])
 | down1 e r o=>
  obtain⟨f,k⟩:=oU m.lt r;obtain⟨j,l⟩:=oU i.lt o;exact c f j (by rw [k,l])
 | flat1=>exact⟨by decide,by decide⟩
 | flat2=>exact⟨by decide,by decide⟩
 | flat3=>exact⟨by decide,by decide⟩
theorem vO {x y:Nat} (c:NumW x) (a:NN y):NN (sSub x y):=by
 have e:sSub x y=sAdd x (flipN y):=by unfold sSub sAdd;rw [xC a.lt a.nan]
 obtain⟨d,b,_⟩:=bM a.lt;rw [e];exact oT c ⟨d,by rw [b];exact a.le⟩
theorem iK {m:Int} (f:0<m) (i:m<=9007199254740992):NumW (fi m)/\fi m % 9223372036854775808≠0:=by
 obtain⟨a,b,c,d⟩:=nJ (m:=m) rfl (by omega) i
 refine⟨⟨d,b⟩,fun e=>?_⟩
 have g:vI (fi m)=0:=by unfold vI;rw [e,bp];split<;>rfl
 rw [g] at a
 have h:(0:Int)<((2^1074:Nat):Int):=by have:=Nat.two_pow_pos 1074;omega
 have:=Int.mul_pos f h;omega
theorem aL {kind:Int} {xs:List Int} {ys:List Nat} (h:OkT kind xs ys) (b:∀ i<ys.length,U64 (ys.getD i 0:Nat)) {i:Nat} (hi:i<xs.length):NumW (ys.getD i 0):=by
 have a:=(ap (h.node i hi)).2.2.2.1;have c:=b i (by rw [h.len];exact hi)
 unfold aE szI at a
 rw [decide_eq_true_eq] at a
 exact⟨by have:=c.2;omega,by unfold ag;omega⟩
theorem fT {kind:Int} {xs:List Int} {ys:List Nat} (h:OkT kind xs ys) (d:∀ i<ys.length,U64 (ys.getD i 0:Nat)) {k:Nat} (c:k+1<xs.length):NN (steepB xs ys k):=by
 have e:=h.step c;have f:=ap (h.node k (by omega))
 have g:=ap (h.node (k+1) c);obtain⟨a,b⟩:=iK (m:=xs.getD (k+1) 0 - xs.getD k 0) (by omega) (by omega)
 exact iI (DF (aL h d c) (aL h d (by omega))) a b
theorem yq {kind:Int} {xs:List Int} {ys:List Nat} (h:OkT kind xs ys) (b:∀ i<ys.length,U64 (ys.getD i 0:Nat)):∀ k,k+1<xs.length->∀ d ∈ eR xs ys k,NN d
 | 0,hk,d,a=>by
  have:d=steepB xs ys 0:=by simpa [eR] using a
  rw [this];exact fT h b hk
 | k+1,hk,d,a=>by
  rw [iE,List.mem_append] at a
  rcases a with a | a
  ·exact yq h b k (by omega) d a
  ·have:d=slB (steepB xs ys k) (steepB xs ys (k+1)):=by simpa using a
   rw [this];exact Pw (fT h b (by omega)) (fT h b hk)
theorem gW {kind:Int} {xs:List Int} {ys:List Nat} (h:OkT kind xs ys) (b:∀ i<ys.length,U64 (ys.getD i 0:Nat)) (i:Nat):NN ((bI xs ys xs.length).getD i 0):=by
 have z:NN 0:=⟨by decide,by decide⟩
 by_cases hi:i<(bI xs ys xs.length).length
 ·have e:(bI xs ys xs.length).getD i 0=(bI xs ys xs.length)[i]:=by simp [List.getD,List.getElem?_eq_getElem hi]
  rw [e];have a:=List.getElem_mem hi;generalize (bI xs ys xs.length)[i]=d at *
  unfold bI at a
  have c:=h.lo
  split at a
  ·have:d=0:=by simpa using a
   rw [this];exact z
  ·rw [List.mem_append] at a
   rcases a with a | a
   ·exact yq h b _ (by omega) d a
   ·have:d=steepB xs ys (xs.length - 2):=by simpa using a
    rw [this];exact fT h b (by omega)
 ·have e:(bI xs ys xs.length).getD i 0=0:=by simp [List.getD,List.getElem?_eq_none (show (bI xs ys xs.length).length<=i by omega)]
  rw [e];exact z
theorem DG {x a b:Nat} (e:x<18446744073709551616) (hn:ah (x:Nat)=false) (d:NumW a) (c:NumW b) (h:ae (a:Nat)<=ae (x:Nat)) (g:ae (x:Nat)<=ae (b:Nat)):NumW x:=by
 have f: -9218868437227405312<ae (a:Nat):=by
  rcases vI_rank d.lt d.nb with⟨p,_,q⟩| ⟨p,_,q⟩
  ·omega
  ·have:=d.nb;unfold ag at this;omega
 have i:ae (b:Nat)<9218868437227405312:=by
  rcases vI_rank c.lt c.nb with⟨p,_,q⟩| ⟨p,_,q⟩
  ·have:=c.nb;unfold ag at this;omega
  ·omega
 exact⟨e,yg (k:=ae (x:Nat)) ⟨rfl,e,hn⟩ (by omega) (by omega)⟩
theorem mV {v a b:Nat} (e:NN v) (d:NumW a) (c:NumW b) (h:ae (a:Nat)<=ae (b:Nat)):NumW (heldN v a b)/\ae (a:Nat)<=ae (heldN v a b:Nat)/\ae (heldN v a b:Nat)<=ae (b:Nat):=by
 obtain⟨x,y,z⟩:=MS e.nan d.nn.nan c.nn.nan h;rw [<- fO e.lt d.lt c.lt] at x y z
 exact⟨DG (jo e.lt d.lt c.lt) x d c y z,y,z⟩
theorem mW {v a b:Nat} (e:NN v) (d:NumW a) (c:NumW b) (h:ae (b:Nat)<=ae (a:Nat)):NumW (heldN v a b)/\ae (b:Nat)<=ae (heldN v a b:Nat)/\ae (heldN v a b:Nat)<=ae (a:Nat):=by
 obtain⟨x,y,z⟩:=EM e.nan d.nn.nan c.nn.nan h;rw [<- fO e.lt d.lt c.lt] at x y z
 exact⟨DG (jo e.lt d.lt c.lt) x c d y z,y,z⟩
theorem Px {h d e a b:Nat} (j:NumW h) (i:h % 9223372036854775808≠0) (t:NN d) (q:NN e) (g:NumW a) (f:NumW b) (p:ae (a:Nat)<=ae (b:Nat)):Up4 a (ptP h d a b) (ptQ h e b (ptP h d a b)) b:=by
 obtain⟨k,c⟩:=iK (m:=3) (by decide) (by decide)
 obtain⟨l,u,r⟩:=mV (v:=sAdd a (sDiv (sMul d h) (fi 3))) (oT g (iI (jX t j i) k c)) g f p;obtain⟨n,s,o⟩:=mV (v:=sSub b (sDiv (sMul e h) (fi 3))) (vO f (iI (jX q j i) k c)) l f r;exact⟨g,l,n,f,u,s,o⟩
theorem Ju {h d e a b:Nat} (j:NumW h) (i:h % 9223372036854775808≠0) (t:NN d) (q:NN e) (g:NumW a) (f:NumW b) (p:ae (b:Nat)<=ae (a:Nat)):Down4 a (ptP h d a b) (ptQ h e b (ptP h d a b)) b:=by
 obtain⟨k,c⟩:=iK (m:=3) (by decide) (by decide)
 obtain⟨l,u,r⟩:=mW (v:=sAdd a (sDiv (sMul d h) (fi 3))) (oT g (iI (jX t j i) k c)) g f p;obtain⟨n,s,o⟩:=mW (v:=sSub b (sDiv (sMul e h) (fi 3))) (vO f (iI (jX q j i) k c)) l f u;exact⟨g,l,n,f,r,o,s⟩
theorem olt {x c:Nat} (h:x<18446744073709551616) (hc:c<18446744073709551616):(FloatKind.f64.format.order x c==some .lt)=ltB (x:Nat) (c:Nat):=by
 unfold ltB;cases a:ah (x:Int) with
 | true=>rw [fE a];rfl
 | false=>
  cases b:ah (c:Int) with
  | true=>rw [iX b];rfl
  | false=>rw [jK (aU h) (aU hc) a b];rfl
theorem ogt {x c:Nat} (h:x<18446744073709551616) (hc:c<18446744073709551616):(FloatKind.f64.format.order x c==some .gt)=ltB (c:Nat) (x:Nat):=by
 unfold ltB;cases a:ah (x:Int) with
 | true=>rw [fE a];simp
 | false=>
  cases b:ah (c:Int) with
  | true=>rw [iX b];rfl
  | false=>rw [lO (aU h) (aU hc) a b];rfl
theorem nj (v a b:Nat) (w:World) (l:v<18446744073709551616) (g:NumW a) (f:NumW b) :
  Calls Tryz.prog 224 #[.float .f64 v,.float .f64 a,.float .f64 b] w fun e s=>e=.returned (.float .f64 (heldN v a b))/\s=w:=by
 have k:=aA g.nn.nan f.nn.nan;have d:=aA f.nn.nan g.nn.nan;have q:=olt f.lt g.lt;have n:=eU (aU g.lt) (aU f.lt) g.nn.nan f.nn.nan;have p:=olt l g.lt;have m:=olt l f.lt;have o:=ogt l g.lt;have r:=ogt l f.lt;obtain⟨R,c⟩:∃ R,heldN v a b=R:=⟨_,rfl⟩;rw [c];unfold heldN dJ at c
 rcases Int.lt_trichotomy (ae (a:Nat)) (ae (b:Nat)) with h | h | h
 ·rw [decide_eq_true h] at k
  rw [decide_eq_false (by omega)] at d n
  rw [d] at q
  rw [k,d] at c
  clear k d m o g f l h;cases j:ltB (v:Nat) (a:Nat)<;>cases i:ltB (b:Nat) (v:Nat)
  all_goals
   rw [j] at p c
   rw [i] at r c
   clear j i;simp at c
   subst c
   go_enter Tryz.func224,Tryz.ntmps224
   go_wp2
   go_ret
   exact⟨rfl,rfl⟩
 ·rw [decide_eq_false (by omega)] at k d
  rw [decide_eq_true h] at n
  rw [d] at q
  rw [k,d] at c
  clear k d m r g f l h;cases j:ltB (v:Nat) (a:Nat)<;>cases i:ltB (a:Nat) (v:Nat)
  all_goals
   rw [j] at p c
   rw [i] at o c
   clear j i;simp at c
   subst c
   go_enter Tryz.func224,Tryz.ntmps224
   go_wp2
   go_ret
   exact⟨rfl,rfl⟩
 ·rw [decide_eq_true h] at d
  rw [decide_eq_false (by omega)] at k n
  rw [d] at q
  rw [d] at c
  clear k d p r g f l h;cases j:ltB (v:Nat) (b:Nat)<;>cases i:ltB (a:Nat) (v:Nat)
  all_goals
   rw [j] at m c
   rw [i] at o c
   clear j i;simp at c
   subst c
   go_enter Tryz.func224,Tryz.ntmps224
   go_wp2
   go_ret
   exact⟨rfl,rfl⟩
def prv (xs:List Int):Nat->Int
 | 0=>-1
 | k+1=>xs.getD k 0
def plB (xs:List Int) (i:Nat):Bool:=decide (xs.getD i 0<=prv xs i)||decide (109572<xs.getD i 0)
def vlB (kind:Int) (ys:List Nat) (i:Nat):Bool:=!aE (ys.getD i 0:Nat)||(decide (kind=4)&&!ltB 0 (ys.getD i 0:Nat))
theorem BL (p:Option Addr) (n c:Nat) (w:World) (h:n<1\/256<n) :
  Calls Tryz.prog 199 #[.slice p n c] w fun e a=>e=.returned (.bool false)/\a=w:=by
 rcases h with h | h
 ·have b:decide ((n:Int)<1)=true:=decide_eq_true (by omega)
  clear h
  go_enter Tryz.func199,Tryz.ntmps199
  go_wp2
  go_ret
  exact⟨rfl,rfl⟩
 ·have b:decide ((n:Int)<1)=false:=decide_eq_false (by omega)
  have d:decide ((256:Int)<n)=true:=decide_eq_true (by omega)
  clear h
  go_enter Tryz.func199,Tryz.ntmps199
  go_wp2
  go_ret
  exact⟨rfl,rfl⟩
theorem yH (p:Option Addr) (b off c n K:Nat) (xs:List Int) (w:World) (r:VSrc w p b off n (xV xs)) (hn:1<=n) (F:n<=256) (H:K<=n) (a:∀ i<K,plB xs i=false) (d:K<n->plB xs K=true) :
  Calls Tryz.prog 199 #[.slice p n c] w fun e D=>e=.returned (.bool (decide (n<=K)))/\D=w:=by
 obtain⟨g,j⟩:∃ g,decide (n<=K)=g:=⟨_,rfl⟩;rw [j];have A:Hid (K<n->g=false):=fun v=>by rw [<- j];exact decide_eq_false (by omega)
 have E:Hid (K=n->g=true):=fun v=>by rw [<- j];exact decide_eq_true (by omega)
 clear j;have s:=hideS r;have z:=hideS a;have B:=hideS d;obtain rfl:=r.at_ (by omega)
 have u:decide ((n:Int)<1)=false:=decide_eq_false (by omega)
 have C:decide ((256:Int)<n)=false:=decide_eq_false (by omega)
 clear r a d
 go_enter Tryz.func199,Tryz.ntmps199
 go_wp2_with fail
 clear u C
 go_loop [3,5,16] (fun l _ i=>∃ k:Nat,k<=K/\i=.int .i64 k/\l=.int .i64 (prv xs k)) (fun _ _ i=>n - (intOf i).toNat)
 case atStart=>exact⟨0,Nat.zero_le _,rfl,rfl⟩
 case round=>
  obtain⟨k,I,rfl,rfl⟩:=hrel
  by_cases m:k<K
  ·have o:k<n:=by omega
   have c1:w.cell? ⟨b,off+k,none⟩=some (.int .i64 (xs.getD k 0)):=s.out.cell k o;have f:=z.out k m;unfold plB at f
   rw [Bool.or_eq_false_iff] at f
   obtain⟨t,G⟩:=f;have x:=hideS (show prv xs (k+1)=xs.getD k 0 from rfl)
   generalize prv xs k=l at *
   generalize xs.getD k 0=y at *
   go_wp2_with fail
   go_round
   case rel=>exact⟨k+1,by omega,by simp,by rw [x.out]⟩
   case measure=>simp [intOf];omega
  ·obtain rfl:k=K:=by omega
   by_cases q:k<n
   ·have c1:w.cell? ⟨b,off+k,none⟩=some (.int .i64 (xs.getD k 0)):=s.out.cell k q;have f:=B.out q;unfold plB at f
    have h:=hideS (A.out q);generalize prv xs k=l at *
    generalize xs.getD k 0=y at *
    cases t:decide (y<=l)
    ·rw [t,Bool.false_or] at f
     go_wp2_with fail
     go_ret
     exact⟨by rw [h.out]<;>rfl,rfl⟩
    ·clear f
     go_wp2_with fail
     go_ret
     exact⟨by rw [h.out]<;>rfl,rfl⟩
   ·obtain rfl:k=n:=by omega
    have h:=hideS (E.out rfl)
    go_wp2_with fail
    go_ret
    exact⟨by rw [h.out]<;>rfl,rfl⟩
theorem yI (kind:Int) (p:Option Addr) (b off c n K:Nat) (ys:List Nat) (w:World) (G:VSrc w p b off n (flV ys)) (H:∀ i<n,ys.getD i 0<18446744073709551616) (V:n<=256) (W:K<=n) (l:∀ i<K,vlB kind ys i=false) (u:K<n->vlB kind ys K=true) :
  Calls Tryz.prog 200 #[.int .i64 kind,.slice p n c] w fun e f=>e=.returned (.bool (decide (n<=K)))/\f=w:=by
 obtain⟨g,v⟩:∃ g,decide (n<=K)=g:=⟨_,rfl⟩;rw [v];have B:Hid (K<n->g=false):=fun O=>by rw [<- v];exact decide_eq_false (by omega)
 have U:Hid (K=n->g=true):=fun O=>by rw [<- v];exact decide_eq_true (by omega)
 clear v;have F:=hideS G;have P:=hideS l;have S:=hideS u;have R:=hideS H;clear G l u H
 go_enter Tryz.func200,Tryz.ntmps200
 go_wp2_with fail
 go_loop [6,9] (fun _ i=>∃ k:Nat,k<=K/\i=.int .i64 k) (fun _ i=>n - (intOf i).toNat)
 case atStart=>exact⟨0,Nat.zero_le _,rfl⟩
 case round=>
  obtain⟨k,X,rfl⟩:=hrel
  by_cases C:k<n
  ·have c1:w.cell? ⟨b,off+k,none⟩=some (.float .f64 (ys.getD k 0)):=F.out.cell k C;obtain rfl:=F.out.at_ (by omega)
   have t:=R.out k C;have o:=hideS fun w=>aZ (ys.getD k 0) w (aU t)
   have a:vlB kind ys k=decide (K<=k):=by
    by_cases A:k<K
    ·rw [P.out k A,decide_eq_false (by omega)]
    ·obtain rfl:k=K:=by omega
     rw [S.out C,decide_eq_true (Nat.le_refl k)]
   have x:=olt t (show (0:Nat)<18446744073709551616 by decide)
   unfold vlB at a
   cases h:ah (ys.getD k 0:Nat) with
   | true=>
    rw [lP h,Bool.not_false,Bool.true_or] at a
    have d:=of_decide_eq_true a.symm;have m:=hideS (B.out (by omega))
    rw [h] at o
    clear a x h d t;generalize ys.getD k 0=y at *
    go_wp2_with (first | (go_at_call 70;refine (o.out _).mono ?_;rintro e f ⟨rfl,rfl⟩))
    go_ret
    exact⟨by rw [m.out]<;>rfl,rfl⟩
   | false=>
    have s:=hideS fun w=>iM (ys.getD k 0) _ w (aU t) (qH h)
    have D:=eU (aU t) (aU (show (0:Nat)<18446744073709551616 by decide)) h (by decide)
    have E:ltB 0 (ys.getD k 0:Nat)=!((FloatKind.f64.format.order (ys.getD k 0) 0==some .lt)||(FloatKind.f64.format.order (ys.getD k 0) 0==some .eq)):=by
     rw [x,D,aA (by decide) h]
     have I:ae ((0:Nat):Int)=0:=by decide
     have z:ae (0:Int)=0:=by decide
     have e:ltB (ys.getD k 0:Nat) ((0:Nat):Int)=decide (ae (ys.getD k 0:Nat)<0):=by rw [aA h (by decide),I]
     rw [e,I,z];generalize ae (ys.getD k 0:Nat)=r
     by_cases J:r<0<;>by_cases Q:r=0<;>by_cases L:0<r<;>simp [J,Q,L]<;>omega
    rw [E] at a
    rw [h] at o
    clear x D E t h;generalize ys.getD k 0=y at *
    cases j:aE (y:Nat) with
    | false=>
     rw [j] at s a
     rw [Bool.not_false,Bool.true_or] at a
     have d:=of_decide_eq_true a.symm;have m:=hideS (B.out (by omega))
     clear a d j
     go_wp2_with (first | (go_at_call 70;refine (o.out _).mono ?_;rintro e f ⟨rfl,rfl⟩) | (go_at_call 71;refine (s.out _).mono ?_;rintro e f ⟨rfl,rfl⟩))
     go_ret
     exact⟨by rw [m.out]<;>rfl,rfl⟩
    | true=>
     rw [j] at s a
     rw [Bool.not_true,Bool.false_or,Bool.not_not] at a
     clear j;cases q:decide (kind=4) with
     | false=>
      rw [q,Bool.false_and] at a
      have d:=of_decide_eq_false a.symm;have T:(kind==4)=false:=beq_eq_false_iff_ne.2 (of_decide_eq_false q);clear a q
      go_wp2_with (first | (go_at_call 70;refine (o.out _).mono ?_;rintro e f ⟨rfl,rfl⟩) | (go_at_call 71;refine (s.out _).mono ?_;rintro e f ⟨rfl,rfl⟩))
      go_round
      case rel=>exact⟨k+1,by omega,by simp⟩
      case measure=>simp [intOf];omega
     | true=>
      rw [q,Bool.true_and] at a
      obtain rfl:=of_decide_eq_true q;clear q;cases M:(FloatKind.f64.format.order y 0==some .lt)<;>cases N:(FloatKind.f64.format.order y 0==some .eq)
      all_goals
       rw [M,N] at a
      ·have d:=of_decide_eq_false a.symm;clear a
       go_wp2_with (first | (go_at_call 70;refine (o.out _).mono ?_;rintro e f ⟨rfl,rfl⟩) | (go_at_call 71;refine (s.out _).mono ?_;rintro e f ⟨rfl,rfl⟩))
       go_round
       case rel=>exact⟨k+1,by omega,by simp⟩
       case measure=>simp [intOf];omega
      all_goals
       have d:=of_decide_eq_true a.symm;have m:=hideS (B.out (by omega))
       clear a d
       go_wp2_with (first | (go_at_call 70;refine (o.out _).mono ?_;rintro e f ⟨rfl,rfl⟩) | (go_at_call 71;refine (s.out _).mono ?_;rintro e f ⟨rfl,rfl⟩))
       go_ret
       exact⟨by rw [m.out]<;>rfl,rfl⟩
  ·obtain rfl:k=n:=by omega
   obtain rfl:K=k:=by omega
   have m:=hideS (U.out rfl)
   go_wp2_with fail
   go_ret
   exact⟨by rw [m.out]<;>rfl,rfl⟩
theorem qP (k:Int) (w:World) (h:k<1\/4<k) :
  Calls Tryz.prog 198 #[.int .i64 k] w fun e a=>e=.returned .nilFunc/\a=w:=by
 have f:(k==1)=false:=beq_eq_false_iff_ne.2 (by omega)
 have d:(k==2)=false:=beq_eq_false_iff_ne.2 (by omega)
 have b:(k==3)=false:=beq_eq_false_iff_ne.2 (by omega)
 have c:(k==4)=false:=beq_eq_false_iff_ne.2 (by omega)
 clear h
 go_enter Tryz.func198,Tryz.ntmps198
 go_wp2_with fail
 go_ret
 exact⟨rfl,rfl⟩
def iZ (kind:Int):Nat:=if kind=1 then 212 else if kind=2 then 213 else if kind=3 then 214 else 215
theorem qQ (k:Int) (w:World) (c:1<=k) (a:k<=4) :
  Calls Tryz.prog 198 #[.int .i64 k] w fun e b=>e=.returned (.func (.func (iZ k)) #[] #[])/\b=w:=by
 rcases (show k=1\/k=2\/k=3\/k=4 by omega) with rfl | rfl | rfl | rfl
 all_goals
  clear c a
  go_enter Tryz.func198,Tryz.ntmps198
  go_wp2_with fail
  go_ret
  exact⟨rfl,rfl⟩
end Go.Proofs.YtfdddijdjpijbaaGreat
