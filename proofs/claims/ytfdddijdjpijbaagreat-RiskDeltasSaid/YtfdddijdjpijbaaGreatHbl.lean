/-  -/
import Derived.Test.YtfdddijdjpijbaaGreatHbc
import Derived.Test.YtfdddijdjpijbaaGreatHbk
import Derived.Test.YtfdddijdjpijbaaGreatHaz
import Derived.Test.YtfdddijdjpijbaaGreatHbi
import Derived.Test.YtfdddijdjpijbaaGreatHar
import Derived.Test.YtfdddijdjpijbaaGreatHba
set_option maxHeartbeats 6400000
namespace Go.Proofs.YtfdddijdjpijbaaGreat
open Go.RowKit
def wAt (a:List Int) (ys:List Nat):Nat->A.St
 | 0=>⟨0,0⟩
 | k+1=>(wAt a ys k).merge (A.bn (fi (a.getD k 0)) (ys.getD k 0))
theorem jq (T ox cx Q R cy n d:Nat) (g:List Int) (ys:List Nat) (w:World) (hX:VSrc w (some ⟨T,ox,none⟩) T ox n (xV g)) (hY:VSrc w (some ⟨Q,R,none⟩) Q R n (yV ys)) (hn:1<=n) (bs:n<=10) (hw:∀ i<n,-9007199254740992<=g.getD i 0/\g.getD i 0<=9007199254740992) (hy:∀ i<n,ys.getD i 0<18446744073709551616) (hd:1<=d) (bo:d<=9223372036854775807) :
  Calls Tryz.prog 146 #[.slice (some ⟨T,ox,none⟩) n cx,.slice (some ⟨Q,R,none⟩) n cy,.int .i64 (d:Int)] w fun e w'=>e=.returned (.int .u64 (aQ (wAt g ys n) d:Int))/\Below w.heap.size w w':=by
 have HX:=hideS hX;have HY:=hideS hY;have HW:=hideS hw;have br:=hideS hy;have H0:=hideS (Jg w);obtain⟨am,z⟩:∃ am:Int,(aQ (wAt g ys n) d:Int)=am:=⟨_,rfl⟩;have Y:=hideS z;rw [z];clear hX hY hw hy z
 go_enter Tryz.func146,Tryz.ntmps146
 go_wp2_with fail
 go_loopw [8] (fun i wr=>∃ k:Nat,k<=n/\i=.int .i64 k/\Hid (Held w wr w.heap.size (wAt g ys k) k)) (fun i _=>n - (intOf i).toNat)
 case atStart=>exact⟨0,Nat.zero_le _,rfl,H0⟩
 case round=>
  clear H0;obtain⟨k,hk,rfl,HH⟩:=hrel;obtain⟨⟨neg,va,M,ee,G,q,H,v⟩,f,P,j⟩:=HH.out;have u:=eF G
  by_cases B:k<n
  ·have bv:wr.cell? ⟨T,ox+k,none⟩=some (.int .i64 (g.getD k 0)):=(f.cell (p:=⟨T,ox+k,none⟩) (HX.out.lt (by omega))).trans (HX.out.cell k B)
   have ba:wr.cell? ⟨Q,R+k,none⟩=some (.int .u64 ((ys.getD k 0:Nat):Int)):=(f.cell (p:=⟨Q,R+k,none⟩) (HY.out.lt (by omega))).trans (HY.out.cell k B)
   have ad:Q<wr.heap.size:=Nat.lt_of_lt_of_le (HY.out.lt (by omega)) f.size
   have ab:T<wr.heap.size:=Nat.lt_of_lt_of_le (HX.out.lt (by omega)) f.size
   have J:=HW.out k B;have O:=br.out k B;have HI:=hideS fun wx=>cY (g.getD k 0) wx (by omega) (by omega)
   have L:=kw J.1 J.2;obtain⟨x,I⟩:∃ x,fi (g.getD k 0)=x:=⟨_,rfl⟩;obtain⟨xi,C⟩:∃ xi:Int,xi=(x:Int):=⟨_,rfl⟩;obtain⟨y,F⟩:∃ y,ys.getD k 0=y:=⟨_,rfl⟩;obtain⟨yi,E⟩:∃ yi:Int,yi=(y:Int):=⟨_,rfl⟩;have al:Hid (wAt g ys (k+1)=(wAt g ys k).merge (A.bn x y)):=by show _=_;rw [<- I,<- F];rfl
   rw [I] at HI L
   rw [F] at O
   rw [F,<- E] at ba
   rw [<- C] at HI
   have bh:=hideS C;have bi:=hideS E;have HU:Hid (U64 xi):=by show U64 _;rw [C];exact aU L
   have bk:Hid (U64 yi):=by show U64 _;rw [E];exact aU O
   generalize g.getD k 0=wk at *
   obtain⟨a,Z⟩:∃ a,wAt g ys k=a:=⟨_,rfl⟩;rw [Z] at v u G al
   obtain⟨S,W,U,rfl⟩:=q.shape;have bc:Hid (∀ m,Below wr.heap.size wr m->Calls Tryz.prog 67 #[AV (a.s:Int) neg (.slice S W U) ee,.int .u64 xi,.int .u64 yi] m (cw m (.slice S W U) M (wAt g ys (k+1)) (k+1))):=fun m h=>by
    have:=OG a.s neg (.slice S W U) M ee a.N k x y xi yi m (q.below h) v (oS (by omega)) HU.out bk.out bh bi
    rw [Jh,<- al.out] at this
    exact this
   have bb:Hid (∀ m,Below wr.heap.size wr m->∀ V r,cw m (.slice S W U) M (wAt g ys (k+1)) (k+1) r V->∃ t p l c e',r=.returned (AV ((wAt g ys (k+1)).s:Int) t (.slice p l c) e')/\Held4 V w.heap.size (a.s:Int) neg (.slice S W U) ee/\Held w (put4 V w.heap.size ((wAt g ys (k+1)).s:Int) t (.slice p l c) e') w.heap.size (wAt g ys (k+1)) (k+1)):=fun m h V r o=>
    xZ (wr:=m) (by rw [h.block w.heap.size j];exact G) H (f.trans (h.mono f.size)) P (Nat.lt_of_lt_of_le j h.size) o
   have q0:=u.c0;have q1:=u.c1;have q2:=u.c2;have q3:=u.c3;have HZ:=hideS (And.intro j (And.intro ab ad));have g3:(0:Int)<=(k:Int):=by omega
   have g4:(k:Int)<(n:Int):=by omega
   clear I C Z q v G H P j u HH F E J O L ad ab f
   go_wp2_with fail
   go_region_with (first | ((go_at_call 101;refine (HI.out _).mono ?_;rintro r m ⟨rfl,h⟩;have b:Below wr.heap.size wr m:=((Below.refl wr.heap.size wr).drew.trans h);have K:=hideS b;have c0:=(b.cell (p:=⟨w.heap.size,0,none⟩) HZ.out.1).trans q0;have c1:=(b.cell (p:=⟨w.heap.size,1,none⟩) HZ.out.1).trans q1;have c2:=(b.cell (p:=⟨w.heap.size,2,none⟩) HZ.out.1).trans q2;have c3:=(b.cell (p:=⟨w.heap.size,3,none⟩) HZ.out.1).trans q3;have bz:=(b.cell (p:=⟨Q,R+k,none⟩) HZ.out.2.2).trans ba;have X:=hideS (bc.out m b);clear h b)) | ((go_at_call 67;refine X.out.mono ?_;intro r V o;obtain⟨t,p4,l4,c4,e4,rfl,D,hH⟩:=bb.out m K.out V r o;have HH:=hideS hH;have k0:=D.c0;have k1:=D.c1;have k2:=D.c2;have k3:=D.c3;have l0:=D.f0;have l1:=D.f1;have l2:=D.f2;have l3:=D.f3;clear o hH D)))
   all_goals
    go_wp2_with fail
    go_roundw
    case rel=>exact⟨k+1,by omega,by simp,HH⟩
    case measure=>simp [intOf];omega
  ·obtain rfl:k=n:=by omega
   obtain⟨S,W,U,rfl⟩:=q.shape;have q0:=u.c0;have q1:=u.c1;have q2:=u.c2;have q3:=u.c3;have HV:=hideS (Po _ neg _ M ee _ k d wr q v (oS (by omega)) hd bo)
   rw [Jh,Y.out] at HV
   have ai:=hideS f;have cc:¬ (k:Int)<(k:Int):=by omega
   clear q v G H f P j u HH
   go_wp2_with fail
   refine HV.out.mono ?_
   rintro r m ⟨rfl,G⟩;have K:=hideS (ai.out.trans (G.mono ai.out.size));clear G
   go_wp2_with fail
   go_ret
   exact⟨rfl,K.out⟩
def lK (w:World) (kind:Int) (d b:Value) (x k E:Int):Prop:=∀ a,Below w.heap.size w a->Calls Tryz.prog 145 #[.agg #[.int .i64 kind,d,b],.int .i64 x] a fun e c=>e=.returned (.tuple #[.int .i64 k,.int .i64 E])/\Below a.heap.size a c
theorem Pp (kind x k E:Int) (c a:Value) (w:World) (d:E≠0) (H:Hid (lK w kind c a x k E)) :
  Calls Tryz.prog 107 #[.agg #[.int .i64 kind,c,a],.int .i64 x] w fun e g=>e=.returned (.tuple #[.int .u64 0,.int .i64 E])/\Below w.heap.size w g:=by
 have f:=hideS (bU w kind c a);have h:(E !=0)=true:=bne_iff_ne.2 d;unfold lK at H
 clear d
 go_enter Tryz.func107,Tryz.ntmps107
 go_wp2_with (go_at_call 145;refine (H.out _ f.out.bl).mono ?_;rintro e i ⟨rfl,b⟩)
 go_ret2
 exact⟨rfl,(f.out.step b).bl⟩
theorem MY (kind x:Int) (l j cx g d cy n k:Nat) (i:Int) (y0:Nat) (w:World)
  (o:∀ c,Below w.heap.size w c->c.cell? ⟨l,j+k,none⟩=some (.int .i64 i)/\c.cell? ⟨g,d+k,none⟩=some (.int .u64 (y0:Int)))
  (z:k<n) (_:n<=256) (h:i=x\/(i≠x/\kind=1)) (H:Hid (lK w kind (.slice (some ⟨l,j,none⟩) n cx) (.slice (some ⟨g,d,none⟩) n cy) x (k:Int) 0)) :
  Calls Tryz.prog 107 #[.agg #[.int .i64 kind,.slice (some ⟨l,j,none⟩) n cx,.slice (some ⟨g,d,none⟩) n cy],.int .i64 x] w fun e c=>e=.returned (.tuple #[.int .u64 (y0:Int),.int .i64 0])/\Below w.heap.size w c:=by
 have f:=hideS (bU w kind (.slice (some ⟨l,j,none⟩) n cx) (.slice (some ⟨g,d,none⟩) n cy));unfold lK at H
 have p:=hideS o;have y:(0:Int)<=(k:Int):=by omega
 have v:(k:Int)<(n:Int):=by omega
 clear o;rcases h with h | ⟨h,r⟩
 ·subst h
  go_enter Tryz.func107,Tryz.ntmps107
  go_wp2_with fail
  refine (H.out _ f.out.bl).mono ?_
  rintro e m ⟨rfl,b⟩;have a:=hideS (f.out.step b);clear b;obtain⟨s,q,t,_,_⟩:=a.out;obtain⟨c0,c1⟩:=p.out m a.out.bl
  go_wp2_with fail
  go_ret2
  exact⟨rfl,a.out.bl⟩
 ·subst r;have u:(i==x)=false:=beq_false_of_ne h
  go_enter Tryz.func107,Tryz.ntmps107
  go_wp2_with fail
  refine (H.out _ f.out.bl).mono ?_
  rintro e m ⟨rfl,b⟩;have a:=hideS (f.out.step b);clear b;obtain⟨s,q,t,_,_⟩:=a.out;obtain⟨c0,c1⟩:=p.out m a.out.bl
  go_wp2_with fail
  go_ret2
  exact⟨rfl,a.out.bl⟩
theorem lL (w:World) (a b:Int):VSrc (w.alloc (.cells #[.int .i64 a,.int .i64 b] 3)) (some ⟨w.heap.size,0,none⟩) w.heap.size 0 2 (xV [a,b]):=
 ⟨fun _=>rfl,fun _=>by simp,fun j c=>by
  rcases (show j=0\/j=1 by omega) with rfl | rfl
  ·simp [xV]
  ·simp [xV]⟩
structure ARd (w:World) (B:Nat) (kind:Int) (vx vy:Value) (bx ox b2 oy k:Nat) (x0 x1:Int) (y0 y1:Nat):Prop where
 t0:w.cell? ⟨B,0,none⟩=some (.int .i64 kind)
 t1:w.cell? ⟨B,1,none⟩=some vx
 t2:w.cell? ⟨B,2,none⟩=some vy
 a0:w.cell? ⟨bx,ox+k,none⟩=some (.int .i64 x0)
 a1:w.cell? ⟨bx,ox+(k+1),none⟩=some (.int .i64 x1)
 b0:w.cell? ⟨b2,oy+k,none⟩=some (.int .u64 (y0:Int))
 b1:w.cell? ⟨b2,oy+(k+1),none⟩=some (.int .u64 (y1:Int))
 ly:b2<w.heap.size
theorem TBox.drewN {w wr:World} {kind:Int} {b a:Value} (h:TBox w kind b a wr) (m:Nat):TBox w kind b a (wr.drewN m):=⟨h.t0,h.t1,h.t2,⟨h.bl.os,h.bl.tape,h.bl.output,h.bl.size,h.bl.block⟩,h.lt⟩
theorem Pq (x:Int) (m r cx b a cy n k D:Nat) (f t i:Int) (y0 y1:Nat) (w:World)
  (Q:∀ h,TBox w 2 (.slice (some ⟨m,r,none⟩) n cx) (.slice (some ⟨b,a,none⟩) n cy) h->ARd h w.heap.size 2 (.slice (some ⟨m,r,none⟩) n cx) (.slice (some ⟨b,a,none⟩) n cy) m r b a k f t y0 y1)
  (hk:k+1<n) (hn:n<=256) (ab:n<=cy) (L:cy<=9223372036854775807) (h0:0<=f) (h1:t<=109572) (hD:t - f=(D:Int)) (hi:x - f=i) (Y:0<i) (Z:i<(D:Int)) (z:y0<18446744073709551616) (y:y1<18446744073709551616) (H:Hid (lK w 2 (.slice (some ⟨m,r,none⟩) n cx) (.slice (some ⟨b,a,none⟩) n cy) x (k:Int) 0)) :
  Calls Tryz.prog 107 #[.agg #[.int .i64 2,.slice (some ⟨m,r,none⟩) n cx,.slice (some ⟨b,a,none⟩) n cy],.int .i64 x] w fun e h=>e=.returned (.tuple #[.int .u64 (aQ (wAt [(D:Int) - i,i] [y0,y1] 2) D:Int),.int .i64 0])/\Below w.heap.size w h:=by
 have N:=hideS (bU w 2 (.slice (some ⟨m,r,none⟩) n cx) (.slice (some ⟨b,a,none⟩) n cy));unfold lK at H
 have P:=hideS Q;have A:Hid (∀ c,b<c.heap.size->c.cell? ⟨b,a+k,none⟩=some (.int .u64 (y0:Int))->c.cell? ⟨b,a+(k+1),none⟩=some (.int .u64 (y1:Int))->Calls Tryz.prog 146 #[.slice (some ⟨c.heap.size,0,none⟩) 2 2,.slice (some ⟨b,a+k,none⟩) 2 (cy - k),.int .i64 (D:Int)] (c.alloc (.cells #[.int .i64 ((D:Int) - i),.int .i64 i] 3)) fun e h=>e=.returned (.int .u64 (aQ (wAt [(D:Int) - i,i] [y0,y1] 2) D:Int))/\Below c.heap.size c h):=fun c B c0 c1=>by
  have d:Below c.heap.size c (c.alloc (.cells #[.int .i64 ((D:Int) - i),.int .i64 i] 3)):=(Below.refl _ _).alloc (Nat.le_refl _) _;refine (jq c.heap.size 0 2 b (a+k) (cy - k) 2 D [(D:Int) - i,i] [y0,y1] _ (lL c _ _) ⟨fun _=>rfl,fun _=>Nat.lt_of_lt_of_le B d.size,fun j T=>?_⟩ (by omega) (by omega) (fun j T=>?_) (fun j T=>?_) (by omega) (by omega)).mono ?_
  ·rcases (show j=0\/j=1 by omega) with rfl | rfl
   ·exact (d.cell (p:=⟨b,a+k,none⟩) B).trans c0
   ·rw [show a+k+1=a+(k+1) by omega];exact (d.cell (p:=⟨b,a+(k+1),none⟩) B).trans c1
  ·rcases (show j=0\/j=1 by omega) with rfl | rfl
   ·show -9007199254740992<=(D:Int) - i/\_;exact⟨by omega,by show (D:Int) - i<=_;omega⟩
   ·show -9007199254740992<=i/\i<=_;omega
  ·rcases (show j=0\/j=1 by omega) with rfl | rfl
   ·exact z
   ·exact y
  ·rintro e h ⟨rfl,hb⟩;exact⟨rfl,d.trans (hb.mono d.size)⟩
 generalize aQ (wAt [(D:Int) - i,i] [y0,y1] 2) D=R at *
 have f1:IntKind.i64.wrap ((k:Int)+1)=(k:Int)+1:=by rw [IntKind.wrap_i64];omega
 have f2:IntKind.i64.wrap (t - f)=t - f:=by rw [IntKind.wrap_i64];omega
 have g1:(0:Int)<=(k:Int)+1:=by omega
 have g2:(k:Int)+1<(n:Int):=by omega
 have g3:(0:Int)<=(k:Int):=by omega
 have g4:(k:Int)<(n:Int):=by omega
 have hx:(f==x)=false:=beq_false_of_ne (by omega)
 have X:(D:Int)<=109572:=by omega
 clear Q z y
 go_enter Tryz.func107,Tryz.ntmps107
 go_wp2_with fail
 refine (H.out _ N.out.bl).mono ?_
 rintro e U ⟨rfl,u⟩;have q:=hideS (N.out.step u);clear u;have V:=P.out U q.out;obtain⟨O,M,I,S,K,J,F,G⟩:=V
 go_wp2_with fail
 go_quiet (fail)
 obtain⟨g,l⟩:∃ g,U.drewN nq=g:=⟨_,rfl⟩;rw [l];have s:Hid (TBox w 2 (.slice (some ⟨m,r,none⟩) n cx) (.slice (some ⟨b,a,none⟩) n cy) g):=by show TBox _ _ _ _ _;rw [<- l];exact q.out.drewN nq
 clear l O M I S K J F G q;obtain⟨O,M,I,S,K,J,F,G⟩:=P.out g s.out;have W:w.heap.size<g.heap.size:=s.out.lt;have c2:∀ o,(g.alloc o).cell? ⟨w.heap.size,2,none⟩=some (.slice (some ⟨b,a,none⟩) n cy):=fun o=>(((Below.refl g.heap.size g).alloc (Nat.le_refl _) o).cell (p:=⟨w.heap.size,2,none⟩) W).trans I
 have C:=hideS (A.out g G J F);have f3:IntKind.i64.wrap (x - f)=x - f:=by rw [IntKind.wrap_i64];omega
 have f4:IntKind.i64.wrap ((k:Int)+2)=(k:Int)+2:=by rw [IntKind.wrap_i64];omega
 have g7:(k:Int)+2<=(n:Int):=by omega
 have g8:(k:Int)<=(k:Int)+2:=by omega
 have g9:(k:Int)+2<=(cy:Int):=by omega
 go_wp2_with fail
 refine C.out.mono ?_
 rintro e w2 ⟨rfl,v⟩;have E:=hideS (s.out.step v);clear v
 go_wp2_with fail
 go_ret2
 exact⟨rfl,E.out.bl⟩
theorem sF {a b A B:Int} (d:0<=a) (f:a<=A) (c:0<=b) (e:b<=B):0<=a*b/\a*b<=A*B:=⟨Int.mul_nonneg d c,Int.mul_le_mul f e c (by omega)⟩
theorem Jm (w:World) (a b c d:Int):VSrc (w.alloc (.cells #[.int .i64 a,.int .i64 b,.int .i64 c,.int .i64 d] 3)) (some ⟨w.heap.size,0,none⟩) w.heap.size 0 4 (xV [a,b,c,d]):=
 ⟨fun _=>rfl,fun _=>by simp,fun j e=>by
  rcases (show j=0\/j=1\/j=2\/j=3 by omega) with rfl | rfl | rfl | rfl
  ·simp [xV]
  ·simp [xV]
  ·simp [xV]
  ·simp [xV]⟩
structure CubW (D i e q1 q2 r1 r2 r3 s2 s3 t1 t2 n1 n2:Int):Prop where
 hq1:e*e=q1
 hq2:q1*e=q2
 hr1:3*e=r1
 hr2:r1*e=r2
 hr3:r2*i=r3
 hs2:r1*i=s2
 hs3:s2*i=s3
 ht1:i*i=t1
 ht2:t1*i=t2
 hn1:D*D=n1
 hn2:n1*D=n2
 b:(0<=q1/\q1<=12006023184)/\(0<=q2/\q2<=1315523972317248)/\(0<=r1/\r1<=328716)/\(0<=r2/\r2<=36018069552)/\(0<=r3/\r3<=3946571916951744)/\(0<=s2/\s2<=36018069552)/\(0<=s3/\s3<=3946571916951744)/\(0<=t1/\t1<=12006023184)/\(0<=t2/\t2<=1315523972317248)/\(0<=n1/\n1<=12006023184)/\(0<=n2/\n2<=1315523972317248)
theorem vJ {D i e:Int} (d:0<=i) (hi:i<=109572) (a:0<=e) (f:e<=109572) (b:0<=D) (l:D<=109572):∃ t A s o z n w t1 y r x,CubW D i e t A s o z n w t1 y r x:=by
 have h:=sF a f a f;have p:=sF h.1 h.2 a f;have g:=sF (show 0<=3*e by omega) (show 3*e<=328716 by omega) a f
 have u:=sF g.1 g.2 d hi;have j:=sF (show 0<=3*e by omega) (show 3*e<=328716 by omega) d hi
 have v:=sF j.1 j.2 d hi;have k:=sF d hi d hi;have q:=sF k.1 k.2 d hi;have c:=sF b l b l;have m:=sF c.1 c.2 b l;exact⟨_,_,_,_,_,_,_,_,_,_,_,rfl,rfl,rfl,rfl,rfl,rfl,rfl,rfl,rfl,rfl,rfl,h,p,⟨by omega,by omega⟩,g,u,j,v,k,q,c,m⟩
theorem Pr (x:Int) (t u cx C B cy n k D z:Nat) (m F i e q1 s r1 r2 r s2 o P a n1:Int) (ps:List Nat) (w:World)
  (hR:∀ d,TBox w 3 (.slice (some ⟨t,u,none⟩) n cx) (.slice (some ⟨C,B,none⟩) n cy) d->d.cell? ⟨t,u+k,none⟩=some (.int .i64 m)/\d.cell? ⟨t,u+(k+1),none⟩=some (.int .i64 F))
  (hk:k+1<n) (hn:n<=256) (h0:0<=m) (h1:F<=109572) (hD:F - m=(D:Int)) (hi:x - m=i) (he:(D:Int) - i=e) (cc:0<i) (cf:i<(D:Int)) (hC:CubW (D:Int) i e q1 s r1 r2 r s2 o P a n1 (z:Int)) (Q:1<=z) (L:ps.length=4) (A:∀ j<4,ps.getD j 0<18446744073709551616)
  (H:Hid (lK w 3 (.slice (some ⟨t,u,none⟩) n cx) (.slice (some ⟨C,B,none⟩) n cy) x (k:Int) 0))
  (I:Hid (∀ b,Below w.heap.size w b->Calls Tryz.prog 147 #[.agg #[.int .i64 3,.slice (some ⟨t,u,none⟩) n cx,.slice (some ⟨C,B,none⟩) n cy],.int .i64 (k:Int)] b fun e d=>∃ v,e=.returned (.tuple #[v,.int .i64 0])/\d.ownsRow b.heap.size 41 1 v 4 (ps.map uV)/\Below b.heap.size b d)) :
  Calls Tryz.prog 107 #[.agg #[.int .i64 3,.slice (some ⟨t,u,none⟩) n cx,.slice (some ⟨C,B,none⟩) n cy],.int .i64 x] w fun e d=>e=.returned (.tuple #[.int .u64 (aQ (wAt [s,r,o,a] ps 4) z:Int),.int .i64 0])/\Below w.heap.size w d:=by
 have HB:=hideS (bU w 3 (.slice (some ⟨t,u,none⟩) n cx) (.slice (some ⟨C,B,none⟩) n cy));unfold lK at H
 have HR:=hideS hR;obtain⟨ct,bh,bc,bi,bs,cq,cp,bo,ai,cu,al,⟨p1,bv⟩,⟨p2,br⟩,⟨p3,am⟩,⟨p4,bk⟩,⟨p5,bz⟩,⟨p6,ba⟩,⟨p7,ci⟩,⟨p8,cs⟩,⟨p9,cm⟩,⟨bb,ab⟩,⟨cd,ad⟩⟩:=hC;have E:Hid (∀ b g c,g<b.heap.size->(∀ j<4,b.cell? ⟨g,j,none⟩=some (.int .u64 (ps.getD j 0:Nat)))->Calls Tryz.prog 146 #[.slice (some ⟨b.heap.size,0,none⟩) 4 4,.slice (some ⟨g,0,none⟩) 4 c,.int .i64 (z:Int)] (b.alloc (.cells #[.int .i64 s,.int .i64 r,.int .i64 o,.int .i64 a] 3)) fun e d=>e=.returned (.int .u64 (aQ (wAt [s,r,o,a] ps 4) z:Int))/\Below b.heap.size b d):=fun b g c hl hc=>by
  have h:Below b.heap.size b (b.alloc (.cells #[.int .i64 s,.int .i64 r,.int .i64 o,.int .i64 a] 3)):=(Below.refl _ _).alloc (Nat.le_refl _) _;refine (jq b.heap.size 0 4 g 0 c 4 z [s,r,o,a] ps _ (Jm b _ _ _ _) ⟨fun _=>rfl,fun _=>Nat.lt_of_lt_of_le hl h.size,fun j O=>?_⟩ (by omega) (by omega) (fun j O=>?_) A Q (by omega)).mono ?_
  ·rw [Nat.zero_add];exact (h.cell (p:=⟨g,j,none⟩) hl).trans (hc j O)
  ·rcases (show j=0\/j=1\/j=2\/j=3 by omega) with rfl | rfl | rfl | rfl
   ·show -9007199254740992<=s/\s<=_;omega
   ·show -9007199254740992<=r/\r<=_;omega
   ·show -9007199254740992<=o/\o<=_;omega
   ·show -9007199254740992<=a/\a<=_;omega
  ·rintro e d ⟨rfl,hb⟩;exact⟨rfl,h.trans (hb.mono h.size)⟩
 generalize aQ (wAt [s,r,o,a] ps 4) z=R at *
 have l:=hideS (And.intro L A);have f1:IntKind.i64.wrap ((k:Int)+1)=(k:Int)+1:=by rw [IntKind.wrap_i64];omega
 have f2:IntKind.i64.wrap (F - m)=F - m:=by rw [IntKind.wrap_i64];omega
 have f3:IntKind.i64.wrap (x - m)=x - m:=by rw [IntKind.wrap_i64];omega
 have g1:(0:Int)<=(k:Int)+1:=by omega
 have g2:(k:Int)+1<(n:Int):=by omega
 have g3:(0:Int)<=(k:Int):=by omega
 have g4:(k:Int)<(n:Int):=by omega
 have hx:(m==x)=false:=beq_false_of_ne (by omega)
 have ca:(D:Int)<=109572:=by omega
 have cr:0<=e:=by omega
 have cl:e<=109572:=by omega
 clear hR L A
 go_enter Tryz.func107,Tryz.ntmps107
 go_wp2_with fail
 refine (H.out _ HB.out.bl).mono ?_
 rintro e w1 ⟨rfl,G⟩;have q:=hideS (HB.out.step G);clear G;obtain⟨X,S⟩:=HR.out w1 q.out;obtain⟨W,U,Y,_,_⟩:=q.out
 go_wp2_with fail
 go_quiet (fail)
 obtain⟨M,y⟩:∃ M,w1.drewN nq=M:=⟨_,rfl⟩;rw [y];have f:Hid (TBox w 3 (.slice (some ⟨t,u,none⟩) n cx) (.slice (some ⟨C,B,none⟩) n cy) M):=by show TBox _ _ _ _ _;rw [<- y];exact q.out.drewN nq
 clear y W U Y X S q;obtain⟨X,S⟩:=HR.out M f.out;obtain⟨W,U,Y,_,_⟩:=f.out
 go_wp2_with fail
 refine (I.out _ f.out.bl).mono ?_
 rintro e w2 ⟨v,rfl,ho,J⟩;obtain⟨pp,g,c,rfl,N,_,_,_⟩:=bq ho l.out.1;obtain rfl:=N.at_ (by rw [l.out.1];omega)
 have V:=hideS (f.out.step J);have T:=hideS (E.out w2 g c (N.lt (by rw [l.out.1];omega)) (fun j O=>by have:=N.cell j (by rw [l.out.1];exact O);rw [Nat.zero_add] at this;exact this))
 clear J ho N W U Y X S f E I
 go_wp2_with fail
 refine T.out.mono ?_
 rintro e w3 ⟨rfl,K⟩;have Z:=hideS (V.out.step K);clear K
 go_wp2_with fail
 go_ret2
 exact⟨rfl,Z.out.bl⟩
theorem Fo {a b:Int} {p q:Nat} (d:a+1074=(p:Int)) (c:b+1074=(q:Int)):(a+b+2148).toNat=p+q:=by omega
theorem Fp {x y:Nat} (u:x<18446744073709551616) (c:ag x) (v:y<18446744073709551616) (g:ag y):A.bn x y=⟨0,vI x*vI y⟩:=by
 obtain⟨n,h,p,j⟩:=Jr u c;obtain⟨o,i,q,r⟩:=Jr v g;have l:A.bn x y=A.fR (x:Int) (y:Int):=by unfold A.bn;rw [n,o];rfl
 have f:az (x:Int)*az (y:Int)*2^(aP (x:Int)+aP (y:Int)+2148).toNat=vI x*vI y:=by
  rw [<- p,<- q]
  by_cases e:az (x:Int)=0
  ·rw [e,Int.zero_mul,Int.zero_mul,Int.zero_mul,Int.zero_mul]
  ·by_cases d:az (y:Int)=0
   ·rw [d,Int.zero_mul,Int.mul_zero,Int.zero_mul,Int.mul_zero]
   ·have a:=j e;have b:=r d;rw [Fo a b,Int.pow_add,Int.natCast_pow,Int.natCast_pow];clear l p q j r a b e d n o;generalize az (x:Int)=m;generalize az (y:Int)=k
    show m*k*(2^h*2^i)=m*2^h*(k*2^i)
    generalize (2:Int)^h=s;generalize (2:Int)^i=t;simp only [Int.mul_assoc,Int.mul_left_comm k]
 rw [l];exact congrArg (A.St.mk 0) f
theorem gV {m:Int} {y K:Nat} (f:K=1074) (i: -9007199254740992<=m) (h:m<=9007199254740992) (g:y<18446744073709551616) (e:ag y):A.bn (fi m) y=⟨0,m*uI K y⟩:=by
 obtain⟨a,b,c,d⟩:=nJ (m:=m) f i h;rw [Fp d b g e,a];unfold uI
 congr 1
 rw [Int.mul_assoc,Int.mul_comm (((2^K:Nat)):Int)]
theorem mT (a b:Int):A.St.merge ⟨0,a⟩ ⟨0,b⟩=⟨0,a+b⟩:=rfl
theorem vN {a b:Int} {y0 y1 K:Nat} (c:K=1074) (e: -9007199254740992<=a/\a<=9007199254740992) (d: -9007199254740992<=b/\b<=9007199254740992) (f:y0<18446744073709551616) (h:ag y0) (i:y1<18446744073709551616) (g:ag y1):wAt [a,b] [y0,y1] 2=⟨0,a*uI K y0+b*uI K y1⟩:=by
 show ((⟨0,0⟩:A.St).merge (A.bn (fi a) y0)).merge (A.bn (fi b) y1)=_
 rw [gV c e.1 e.2 f h,gV c d.1 d.2 i g,mT,mT,Int.zero_add]
theorem yj {a b c d:Int} {y0 y1 f e K:Nat} (g:K=1074) (j: -9007199254740992<=a/\a<=9007199254740992) (h: -9007199254740992<=b/\b<=9007199254740992) (hc: -9007199254740992<=c/\c<=9007199254740992) (i: -9007199254740992<=d/\d<=9007199254740992) (o:y0<18446744073709551616) (n:ag y0) (m:y1<18446744073709551616) (p:ag y1) (l:f<18446744073709551616) (q:ag f) (k:e<18446744073709551616) (r:ag e):wAt [a,b,c,d] [y0,y1,f,e] 4=⟨0,a*uI K y0+b*uI K y1+c*uI K f+d*uI K e⟩:=by
 show ((((⟨0,0⟩:A.St).merge (A.bn (fi a) y0)).merge (A.bn (fi b) y1)).merge (A.bn (fi c) f)).merge (A.bn (fi d) e)=_
 rw [gV g j.1 j.2 o n,gV g h.1 h.2 m p,gV g hc.1 hc.2 l q,gV g i.1 i.2 k r,mT,mT,mT,mT,Int.zero_add]
theorem kQ (N:Int) (d:Nat):aQ ⟨0,N⟩ d=overG N d:=by
 unfold aQ overG;rw [if_pos rfl,mR]
structure Inside (xs:List Int) (x:Int) (k D:Nat) (i:Int):Prop where
 lt:k+1<xs.length
 hD:xs.getD (k+1) 0 - xs.getD k 0=(D:Int)
 hi:x - xs.getD k 0=i
 lo:0<i
 hi':i<(D:Int)
theorem Fq {xs:List Int} {x:Int} {k:Nat} (b:x<=xs.getD (xs.length - 1) 0) (a:FindR xs x k) (f:xs.getD k 0≠x):∃ D i,Inside xs x k D i:=by
 have g:=a.le;have d:k+1<xs.length:=Classical.byContradiction fun c=>by
  have e:=a.lt;rw [show xs.length - 1=k by omega] at b
  omega
 have h:=a.gt d;exact⟨(xs.getD (k+1) 0 - xs.getD k 0).toNat,_,d,by omega,rfl,by omega,by omega⟩
def linV (ys:List Nat) (k D:Nat) (i:Int):Nat:=aQ (wAt [(D:Int) - i,i] [ys.getD k 0,ys.getD (k+1) 0] 2) D
theorem yk (kind x k E:Int) (b a:Option Addr) (g f cx d c cy:Nat) (xs:List Int) (ys:List Nat) (w:World) (h:FindO kind xs ys x k E) (i:E≠0) (j:TSrc w b a g f d c xs ys) :
  Calls Tryz.prog 107 #[.agg #[.int .i64 kind,.slice b xs.length cx,.slice a ys.length cy],.int .i64 x] w fun e l=>e=.returned (.tuple #[.int .u64 0,.int .i64 E])/\Below w.heap.size w l:=
 Pp kind x k E _ _ w i (fun m n=>cM kind x k E b a g f cx d c cy xs ys m h (j.below n))
theorem lM (kind x:Int) (d b:Option Addr) (l j cx g f cy n k:Nat) (xs:List Int) (ys:List Nat) (w:World) (h:OkT kind xs ys) (hn:xs.length=n) (p:FindO kind xs ys x (k:Int) 0) (s:k<n) (m:xs.getD k 0=x\/(xs.getD k 0≠x/\kind=1)) (a:TSrc w d b l j g f xs ys) :
  Calls Tryz.prog 107 #[.agg #[.int .i64 kind,.slice d n cx,.slice b n cy],.int .i64 x] w fun e o=>e=.returned (.tuple #[.int .u64 (ys.getD k 0:Nat),.int .i64 0])/\Below w.heap.size w o:=by
 have i:=h.len;have q:=h.hi;have H:lK w kind (.slice d n cx) (.slice b n cy) x (k:Int) 0:=fun r c=>by
  have:=cM kind x k 0 d b l j cx g f cy xs ys r p (a.below c);rw [i,hn] at this
  exact this
 obtain rfl:=a.x.at_ (by omega)
 obtain rfl:=a.y.at_ (by omega)
 exact MY kind x l j cx g f cy n k (xs.getD k 0) (ys.getD k 0) w (fun o c=>⟨(a.below c).x.cell k (by omega),(a.below c).y.cell k (by omega)⟩) s (by omega) m H
theorem yl (x:Int) (j g:Option Addr) (r q cx o m cy n k D:Nat) (i:Int) (xs:List Int) (ys:List Nat) (w:World) (h:OkT 2 xs ys) (hn:xs.length=n) (v:FindO 2 xs ys x (k:Int) 0) (c:Inside xs x k D i) (s:n<=cy) (d:cy<=9223372036854775807) (b:TSrc w j g r q o m xs ys) :
  Calls Tryz.prog 107 #[.agg #[.int .i64 2,.slice j n cx,.slice g n cy],.int .i64 x] w fun e t=>e=.returned (.tuple #[.int .u64 (linV ys k D i:Int),.int .i64 0])/\Below w.heap.size w t:=by
 have p:=h.len;have E:=h.hi;have u:=c.lt;have H:lK w 2 (.slice j n cx) (.slice g n cy) x (k:Int) 0:=fun A B=>by
  have:=cM 2 x k 0 j g r q cx o m cy xs ys A v (b.below B);rw [p,hn] at this
  exact this
 obtain rfl:=b.x.at_ (by omega)
 obtain rfl:=b.y.at_ (by omega)
 have z:=ap (h.node k (by omega))
 have C:=ap (h.node (k+1) (by omega))
 exact Pq x r q cx o m cy n k D (xs.getD k 0) (xs.getD (k+1) 0) i (ys.getD k 0) (ys.getD (k+1) 0) w (fun t l=>by
   have a:=b.below l.bl;exact⟨l.t0,l.t1,l.t2,a.x.cell k (by omega),a.x.cell (k+1) (by omega),a.y.cell k (by omega),a.y.cell (k+1) (by omega),a.y.lt (by omega)⟩)
  (by omega) (by omega) s d z.1 C.2.1 c.hD c.hi c.lo c.hi' (by have:=(b.f k (by omega)).2;omega) (by have:=(b.f (k+1) (by omega)).2;omega) H
def Bu (ps:List Nat) (D:Nat) (i:Int):Nat:=aQ (wAt [((D:Int) - i)*((D:Int) - i)*((D:Int) - i),3*((D:Int) - i)*((D:Int) - i)*i,3*((D:Int) - i)*i*i,i*i*i] ps 4) (D*D*D)
theorem Pv {xs:List Int} {ys:List Nat} {k:Nat} (b:ys.getD k 0<18446744073709551616) (a:ys.getD (k+1) 0<18446744073709551616):∀ j<4,(ptL xs ys k).getD j 0<18446744073709551616:=fun j c=>by
 rcases (show j=0\/j=1\/j=2\/j=3 by omega) with rfl | rfl | rfl | rfl
 ·exact b
 ·exact Be b a
 ·exact Ph a (Be b a)
 ·exact a
theorem ym (x:Int) (g d:Option Addr) (r q cx p o cy n k D:Nat) (i:Int) (xs:List Int) (ys:List Nat) (w:World) (h:OkT 3 xs ys) (hn:xs.length=n) (F:FindO 3 xs ys x (k:Int) 0) (j:Inside xs x k D i) (c:TSrc w g d r q p o xs ys) :
  Calls Tryz.prog 107 #[.agg #[.int .i64 3,.slice g n cx,.slice d n cy],.int .i64 x] w fun e l=>e=.returned (.tuple #[.int .u64 (Bu (ptL xs ys k) D i:Int),.int .i64 0])/\Below w.heap.size w l:=by
 have u:=h.len;have Y:=h.hi;have E:=j.lt;have H:lK w 3 (.slice g n cx) (.slice d n cy) x (k:Int) 0:=fun b z=>by
  have:=cM 3 x k 0 g d r q cx p o cy xs ys b F (c.below z);rw [u,hn] at this
  exact this
 have V:∀ b,Below w.heap.size w b->Calls Tryz.prog 147 #[.agg #[.int .i64 3,.slice g n cx,.slice d n cy],.int .i64 (k:Int)] b fun e l=>∃ v,e=.returned (.tuple #[v,.int .i64 0])/\l.ownsRow b.heap.size 41 1 v 4 ((ptL xs ys k).map uV)/\Below b.heap.size b l:=fun b z=>qh 3 g d r q cx p o cy n k xs ys b h hn (c.below z) (by omega)
 obtain rfl:=c.x.at_ (by omega)
 obtain rfl:=c.y.at_ (by omega)
 have N:=ap (h.node k (by omega))
 have O:=ap (h.node (k+1) (by omega))
 have M:=j.hD;have B:=j.lo;have s:=j.hi';have C:ys.getD k 0<18446744073709551616:=by have:=(c.f k (by omega)).2;omega
 have t:ys.getD (k+1) 0<18446744073709551616:=by have:=(c.f (k+1) (by omega)).2;omega
 obtain⟨Q,W,P,J,U,G,S,K,T,I,L,a⟩:=vJ (D:=(D:Int)) (i:=i) (e:=(D:Int) - i) (by omega) (by omega) (by omega) (by omega) (by omega) (by omega)
 have R:L=((D*D*D:Nat):Int):=by rw [<- a.hn2,<- a.hn1,Int.natCast_mul,Int.natCast_mul]
 rw [R] at a
 have A:1<=D*D*D:=Nat.mul_pos (Nat.mul_pos (by omega) (by omega)) (by omega)
 unfold Bu;rw [a.hq1,a.hq2,a.hr1,a.hr2,a.hr3,a.hs2,a.hs3,a.ht1,a.ht2];exact Pr x r q cx p o cy n k D (D*D*D) (xs.getD k 0) (xs.getD (k+1) 0) i ((D:Int) - i) Q W P J U G S K T I (ptL xs ys k) w (fun l X=>by
   have m:=c.below X.bl;exact⟨m.x.cell k (by omega),m.x.cell (k+1) (by omega)⟩)
  (by omega) (by omega) N.1 O.2.1 M j.hi rfl B s a A rfl (Pv C t) H V
structure NumW (y:Nat):Prop where
 lt:y<18446744073709551616
 nb:ag y
theorem mU {y0 y1 D K:Nat} {i:Int} (c:K=1074) (a:NumW y0) (b:NumW y1) (hi:0<=i) (d:i<=(D:Int)) (e:(D:Int)<=109572):aQ (wAt [(D:Int) - i,i] [y0,y1] 2) D=overG (eX (D:Int) i (uI K y0) (uI K y1)) D:=by
 rw [vN c ⟨by omega,by omega⟩ ⟨by omega,by omega⟩ a.lt a.nb b.lt b.nb,kQ]
 rfl
theorem tG {c d g f D K:Nat} {i:Int} (r:K=1074) (l:NumW c) (k:NumW d) (j:NumW g) (h:NumW f) (hi:0<=i) (m:i<=(D:Int)) (y:(D:Int)<=109572):Bu [c,d,g,f] D i=overG (eM (D:Int) i (uI K c) (uI K d) (uI K g) (uI K f)) (D*D*D):=by
 obtain⟨C,I,A,u,H,s,E,v,F,t,w,a⟩:=vJ (D:=(D:Int)) (i:=i) (e:=(D:Int) - i) (by omega) (by omega) (by omega) (by omega) (by omega) (by omega)
 unfold Bu eM;rw [a.hq1,a.hq2,a.hr1,a.hr2,a.hr3,a.hs2,a.hs3,a.ht1,a.ht2];obtain⟨⟨_,_⟩,⟨B,n⟩,⟨_,_⟩,⟨_,_⟩,⟨x,o⟩,⟨_,_⟩,⟨G,p⟩,⟨_,_⟩,⟨z,q⟩,_,_⟩:=a.b;rw [yj r ⟨by omega,by omega⟩ ⟨by omega,by omega⟩ ⟨by omega,by omega⟩ ⟨by omega,by omega⟩ l.lt l.nb k.lt k.nb j.lt j.nb h.lt h.nb,kQ]
theorem OI (D:Nat):((D*D*D:Nat):Int)=(D:Int)*(D:Int)*(D:Int):=by rw [Int.natCast_mul,Int.natCast_mul]
theorem yo {y0 y1 D K:Nat} {i:Int} (e:K=1074) (b:NumW y0) (c:NumW y1) (hi:0<=i) (d:i<=(D:Int)) (a:0<D) (h:ae (y0:Nat)<=ae (y1:Nat)) :
  ae (y0:Nat)<=gA (eX (D:Int) i (uI K y0) (uI K y1)) D/\gA (eX (D:Int) i (uI K y0) (uI K y1)) D<=ae (y1:Nat):=by
 have g:=nQ K b.lt b.nb c.lt c.nb h;have f:=Jo (n:=(D:Int)) hi d g;exact⟨Dw e b.lt b.nb a f.1,Dx e c.lt c.nb a f.2⟩
theorem sG {y0 y1 D K:Nat} {i:Int} (e:K=1074) (b:NumW y0) (c:NumW y1) (hi:0<=i) (d:i<=(D:Int)) (a:0<D) (h:ae (y1:Nat)<=ae (y0:Nat)) :
  ae (y1:Nat)<=gA (eX (D:Int) i (uI K y0) (uI K y1)) D/\gA (eX (D:Int) i (uI K y0) (uI K y1)) D<=ae (y0:Nat):=by
 have g:=nQ K c.lt c.nb b.lt b.nb h;have f:=Pu (n:=(D:Int)) hi d g;exact⟨Dw e c.lt c.nb a f.1,Dx e b.lt b.nb a f.2⟩
structure Up4 (p0 p1 p2 p3:Nat):Prop where
 n0:NumW p0
 n1:NumW p1
 n2:NumW p2
 n3:NumW p3
 r1:ae (p0:Nat)<=ae (p1:Nat)
 r2:ae (p1:Nat)<=ae (p2:Nat)
 r3:ae (p2:Nat)<=ae (p3:Nat)
theorem yp {b d g c D K:Nat} {i:Int} (j:K=1074) (h:Up4 b d g c) (hi:0<=i) (e:i<=(D:Int)) (a:0<D) :
  ae (b:Nat)<=gA (eM (D:Int) i (uI K b) (uI K d) (uI K g) (uI K c)) (D*D*D)/\gA (eM (D:Int) i (uI K b) (uI K d) (uI K g) (uI K c)) (D*D*D)<=ae (c:Nat):=by
 have o:=nQ K h.n0.lt h.n0.nb h.n1.lt h.n1.nb h.r1;have l:=nQ K h.n1.lt h.n1.nb h.n2.lt h.n2.nb h.r2;have m:=nQ K h.n2.lt h.n2.nb h.n3.lt h.n3.nb h.r3;have f:=Ps (n:=(D:Int)) hi e o l m;have k:0<D*D*D:=Nat.mul_pos (Nat.mul_pos a a) a;rw [<- OI] at f
 exact⟨Dw j h.n0.lt h.n0.nb k f.1,Dx j h.n3.lt h.n3.nb k f.2⟩
structure Down4 (p0 p1 p2 p3:Nat):Prop where
 n0:NumW p0
 n1:NumW p1
 n2:NumW p2
 n3:NumW p3
 r1:ae (p1:Nat)<=ae (p0:Nat)
 r2:ae (p2:Nat)<=ae (p1:Nat)
 r3:ae (p3:Nat)<=ae (p2:Nat)
theorem sH {b d g c D K:Nat} {i:Int} (j:K=1074) (h:Down4 b d g c) (hi:0<=i) (e:i<=(D:Int)) (a:0<D) :
  ae (c:Nat)<=gA (eM (D:Int) i (uI K b) (uI K d) (uI K g) (uI K c)) (D*D*D)/\gA (eM (D:Int) i (uI K b) (uI K d) (uI K g) (uI K c)) (D*D*D)<=ae (b:Nat):=by
 have o:=nQ K h.n1.lt h.n1.nb h.n0.lt h.n0.nb h.r1;have l:=nQ K h.n2.lt h.n2.nb h.n1.lt h.n1.nb h.r2;have m:=nQ K h.n3.lt h.n3.nb h.n2.lt h.n2.nb h.r3;have f:=Pt (n:=(D:Int)) hi e o l m;have k:0<D*D*D:=Nat.mul_pos (Nat.mul_pos a a) a;rw [<- OI] at f
 exact⟨Dw j h.n3.lt h.n3.nb k f.1,Dx j h.n0.lt h.n0.nb k f.2⟩
structure NN (x:Nat):Prop where
 lt:x<18446744073709551616
 le:x % 9223372036854775808<=9218868437227405312
theorem NN.cases {x:Nat} (h:NN x):ag x\/x % 9223372036854775808=9218868437227405312:=by
 unfold ag;have:=h.le;omega
theorem NN.nan {x:Nat} (h:NN x):ah (x:Nat)=false:=by
 unfold ah szI;rw [decide_eq_false_iff_not];have:=h.le;omega
theorem QN {x:Nat} (a:x<18446744073709551616) (h:ah (x:Nat)=false):NN x:=by
 unfold ah szI at h;rw [decide_eq_false_iff_not] at h;exact⟨a,by omega⟩
theorem NumW.nn {x:Nat} (h:NumW x):NN x:=⟨h.lt,by have:=h.nb;unfold ag at this;omega⟩
theorem qu {s:Bool} {r:Nat} (h:r<=9218868437227405312):NN (wrd s r)/\sB (wrd s r)=s:=by
 unfold wrd sB;cases s
 ·exact⟨⟨by simp;omega,by simp;omega⟩,by simp;omega⟩
 ·refine⟨⟨by simp;omega,by simp;omega⟩,?_⟩
  rw [if_pos rfl,show (9223372036854775808+r) / 9223372036854775808 % 2=1 by omega];rfl
theorem qv {r:Nat} {k:Int} (h:RkW r k):NN r:=QN h.2.1 h.2.2
theorem DF {x y:Nat} (b:NumW x) (a:NumW y):NN (sSub x y):=by
 obtain⟨r,e,h⟩:=jr b.nb a.nb;unfold sSub;rw [e,ao];exact qv h
theorem iI {x y:Nat} (d:NN x) (a:NumW y) (b:y % 9223372036854775808≠0):NN (sDiv x y):=by
 unfold sDiv;rcases d.cases with h | h
 ·obtain⟨r,e,c⟩:=qt h a.nb b;rw [e,ao];exact qv c
 ·rw [Dm h a.nb,ao];exact (qu (by omega)).1
theorem jX {x y:Nat} (d:NN x) (a:NumW y) (b:y % 9223372036854775808≠0):NN (sMul x y):=by
 unfold sMul;rcases d.cases with h | h
 ·obtain⟨r,e,c⟩:=js h a.nb;rw [e,ao];exact qv c
 ·rw [(gk h a.nb b).1,ao];exact (qu (by omega)).1
theorem oT {x y:Nat} (b:NumW x) (a:NN y):NN (sAdd x y):=by
 unfold sAdd;rcases a.cases with h | h
 ·obtain⟨r,e,c⟩:=fS b.nb h;rw [e,ao];exact qv c
 ·rw [(lD h b.nb a.lt).2,ao];exact a
theorem tH {x y:Nat} (f:NN x) (g:NN y) (j:sB x=sB y):NN (sAdd x y):=by
 unfold sAdd;rcases f.cases with h | h<;>rcases g.cases with i | i
 ·obtain⟨r,e,k⟩:=fS h i;rw [e,ao];exact qv k
 ·rw [(lD i h g.lt).2,ao];exact g
 ·rw [(lD h i f.lt).1,ao];exact f
 ·have e:x=y:=by
   have a:=f.lt;have b:=g.lt;unfold sB at j
   have c:(x / 9223372036854775808 % 2==1)=(y / 9223372036854775808 % 2==1):=j;have d:x / 9223372036854775808 % 2=y / 9223372036854775808 % 2:=by
    rcases Nat.mod_two_eq_zero_or_one (x / 9223372036854775808) with p | p<;>rcases Nat.mod_two_eq_zero_or_one (y / 9223372036854775808) with q | q<;>rw [p,q] at c<;>simp_all
   omega
  rw [pU h i f.lt g.lt,if_pos e,ao];exact f
theorem qw {c a:Nat} (hc:ag c) (d:c % 9223372036854775808≠0) (b:sB c=false) (f:NN a) (e:a % 9223372036854775808≠0):NN (sDiv c a)/\sB (sDiv c a)=sB a:=by
 unfold sDiv;rcases f.cases with h | h
 ·have g:(mg (a % 9223372036854775808)).log2<53:=(Nat.log2_lt (fL e)).2 (by have:=nF (a % 9223372036854775808);omega)
  rw [jU hc h d e rfl rfl rfl rfl (k:=300) (by omega),ao,b,Bool.false_xor]
  exact qu (qp _ _)
 ·rw [pX hc h,ao,b,Bool.false_xor];exact qu (by omega)
theorem Jt {s:Nat} (b:NN s):NN (sDiv 4611686018427387904 s):=by
 by_cases a:s % 9223372036854775808=0
 ·unfold sDiv;rw [nL (by unfold ag;decide) (by decide) a,ao]
  exact (qu (by omega)).1
 ·exact (qw (by unfold ag;decide) (by decide) (by decide) b a).1
theorem iJ {a:Nat} (f:a<18446744073709551616) (h:ltB 0 (a:Nat)=true):a % 9223372036854775808≠0/\sB a=false:=by
 unfold ltB at h
 simp only [Bool.and_eq_true,Bool.not_eq_true',decide_eq_true_eq] at h
 obtain⟨⟨_,e⟩,b⟩:=h;have d:ae 0=0:=by decide
 rw [d] at b
 unfold ae at b
 rw [e,if_neg (by decide)] at b
 unfold sgB szI at b
 by_cases c:(9223372036854775808:Int)<=(a:Int)
 ·simp [c] at b;omega
 ·simp [c] at b
  refine⟨by omega,?_⟩
  unfold sB;rw [show a / 9223372036854775808 % 2=0 by omega];rfl
theorem oU {a:Nat} (f:a<18446744073709551616) (h:ltB (a:Nat) 0=true):a % 9223372036854775808≠0/\sB a=true:=by
 unfold ltB at h
 simp only [Bool.and_eq_true,Bool.not_eq_true',decide_eq_true_eq] at h
 obtain⟨⟨e,_⟩,b⟩:=h;have d:ae 0=0:=by decide
 rw [d] at b
 unfold ae at b
 rw [e,if_neg (by decide)] at b
 unfold sgB szI at b
 by_cases c:(9223372036854775808:Int)<=(a:Int)
 ·simp [c] at b
  refine⟨by omega,?_⟩
  unfold sB;rw [show a / 9223372036854775808 % 2=1 by omega];rfl
 ·simp [c] at b;omega
theorem Pw {a b:Nat} (l:NN a) (j:NN b):NN (slB a b):=by
 have d:ag 4607182418800017408:=by unfold ag;decide
 have c:a % 9223372036854775808≠0->b % 9223372036854775808≠0->sB a=sB b->NN (sDiv 4611686018427387904 (sAdd (sDiv 4607182418800017408 a) (sDiv 4607182418800017408 b))):=fun e g p=>by
  obtain⟨r,s⟩:=qw d (by decide) (by decide) l e
  obtain⟨t,n⟩:=qw d (by decide) (by decide) j g
  exact Jt (tH r t (by rw [s,n,p]))
 have h:=IJ a b;generalize slB a b=z at *
 cases h with
 | up e g=>
  obtain⟨f,i⟩:=iJ l.lt e;obtain⟨m,k⟩:=iJ j.lt g;exact c f m (by rw [i,k])
 | down1 e o q=>
  obtain⟨f,i⟩:=oU l.lt o;obtain⟨m,k⟩:=oU j.lt q;exact c f m (by rw [i,k])
 | flat1=>exact⟨by decide,by decide⟩
 | flat2=>exact⟨by decide,by decide⟩
 | flat3=>exact⟨by decide,by decide⟩
theorem vO {x y:Nat} (d:NumW x) (a:NN y):NN (sSub x y):=by
 have e:sSub x y=sAdd x (flipN y):=by unfold sSub sAdd;rw [xC a.lt a.nan]
 obtain⟨b,c,_⟩:=bM a.lt;rw [e];exact oT d ⟨b,by rw [c];exact a.le⟩
theorem iK {m:Int} (f:0<m) (i:m<=9007199254740992):NumW (fi m)/\fi m % 9223372036854775808≠0:=by
 obtain⟨a,b,c,d⟩:=nJ (m:=m) rfl (by omega) i
 refine⟨⟨d,b⟩,fun e=>?_⟩
 have h:vI (fi m)=0:=by unfold vI;rw [e,bp];split<;>rfl
 rw [h] at a
 have g:(0:Int)<((2^1074:Nat):Int):=by have:=Nat.two_pow_pos 1074;omega
 have:=Int.mul_pos f g;omega
theorem aL {kind:Int} {xs:List Int} {ys:List Nat} (h:OkT kind xs ys) (b:∀ i<ys.length,U64 (ys.getD i 0:Nat)) {i:Nat} (hi:i<xs.length):NumW (ys.getD i 0):=by
 have a:=(ap (h.node i hi)).2.2.2.1;have c:=b i (by rw [h.len];exact hi)
 unfold aE szI at a
 rw [decide_eq_true_eq] at a
 exact⟨by have:=c.2;omega,by unfold ag;omega⟩
theorem fT {kind:Int} {xs:List Int} {ys:List Nat} (h:OkT kind xs ys) (d:∀ i<ys.length,U64 (ys.getD i 0:Nat)) {k:Nat} (c:k+1<xs.length):NN (steepB xs ys k):=by
 have e:=h.step c;have g:=ap (h.node k (by omega))
 have f:=ap (h.node (k+1) c);obtain⟨a,b⟩:=iK (m:=xs.getD (k+1) 0 - xs.getD k 0) (by omega) (by omega)
 exact iI (DF (aL h d c) (aL h d (by omega))) a b
theorem yq {kind:Int} {xs:List Int} {ys:List Nat} (h:OkT kind xs ys) (b:∀ i<ys.length,U64 (ys.getD i 0:Nat)):∀ k,k+1<xs.length->∀ d ∈ eR xs ys k,NN d
 | 0,hk,d,a=>by
  have:d=steepB xs ys 0:=by simpa [eR] using a
  rw [this];exact fT h b hk
 | k+1,hk,d,a=>by
  rw [iE,List.mem_append] at a
  rcases a with a | a
  ·exact yq h b k (by omega) d a
  ·have:d=slB (steepB xs ys k) (steepB xs ys (k+1)):=by simpa using a
   rw [this];exact Pw (fT h b (by omega)) (fT h b hk)
theorem gW {kind:Int} {xs:List Int} {ys:List Nat} (h:OkT kind xs ys) (b:∀ i<ys.length,U64 (ys.getD i 0:Nat)) (i:Nat):NN ((bI xs ys xs.length).getD i 0):=by
 have z:NN 0:=⟨by decide,by decide⟩
 by_cases hi:i<(bI xs ys xs.length).length
 ·have e:(bI xs ys xs.length).getD i 0=(bI xs ys xs.length)[i]:=by simp [List.getD,List.getElem?_eq_getElem hi]
  rw [e];have a:=List.getElem_mem hi;generalize (bI xs ys xs.length)[i]=d at *
  unfold bI at a
  have c:=h.lo
  split at a
  ·have:d=0:=by simpa using a
   rw [this];exact z
  ·rw [List.mem_append] at a
   rcases a with a | a
   ·exact yq h b _ (by omega) d a
   ·have:d=steepB xs ys (xs.length - 2):=by simpa using a
    rw [this];exact fT h b (by omega)
 ·have e:(bI xs ys xs.length).getD i 0=0:=by simp [List.getD,List.getElem?_eq_none (show (bI xs ys xs.length).length<=i by omega)]
  rw [e];exact z
theorem DG {x a b:Nat} (e:x<18446744073709551616) (hn:ah (x:Nat)=false) (d:NumW a) (c:NumW b) (f:ae (a:Nat)<=ae (x:Nat)) (h:ae (x:Nat)<=ae (b:Nat)):NumW x:=by
 have g: -9218868437227405312<ae (a:Nat):=by
  rcases vI_rank d.lt d.nb with⟨p,_,q⟩| ⟨p,_,q⟩
  ·omega
  ·have:=d.nb;unfold ag at this;omega
 have i:ae (b:Nat)<9218868437227405312:=by
  rcases vI_rank c.lt c.nb with⟨p,_,q⟩| ⟨p,_,q⟩
  ·have:=c.nb;unfold ag at this;omega
  ·omega
 exact⟨e,yg (k:=ae (x:Nat)) ⟨rfl,e,hn⟩ (by omega) (by omega)⟩
theorem mV {v a b:Nat} (e:NN v) (d:NumW a) (c:NumW b) (h:ae (a:Nat)<=ae (b:Nat)):NumW (heldN v a b)/\ae (a:Nat)<=ae (heldN v a b:Nat)/\ae (heldN v a b:Nat)<=ae (b:Nat):=by
 obtain⟨x,y,z⟩:=MS e.nan d.nn.nan c.nn.nan h;rw [<- fO e.lt d.lt c.lt] at x y z
 exact⟨DG (jo e.lt d.lt c.lt) x d c y z,y,z⟩
theorem mW {v a b:Nat} (e:NN v) (d:NumW a) (c:NumW b) (h:ae (b:Nat)<=ae (a:Nat)):NumW (heldN v a b)/\ae (b:Nat)<=ae (heldN v a b:Nat)/\ae (heldN v a b:Nat)<=ae (a:Nat):=by
 obtain⟨x,y,z⟩:=EM e.nan d.nn.nan c.nn.nan h;rw [<- fO e.lt d.lt c.lt] at x y z
 exact⟨DG (jo e.lt d.lt c.lt) x c d y z,y,z⟩
theorem Px {h d e a b:Nat} (l:NumW h) (j:h % 9223372036854775808≠0) (t:NN d) (q:NN e) (g:NumW a) (f:NumW b) (r:ae (a:Nat)<=ae (b:Nat)):Up4 a (ptP h d a b) (ptQ h e b (ptP h d a b)) b:=by
 obtain⟨k,c⟩:=iK (m:=3) (by decide) (by decide)
 obtain⟨i,n,o⟩:=mV (v:=sAdd a (sDiv (sMul d h) (fi 3))) (oT g (iI (jX t l j) k c)) g f r;obtain⟨s,u,p⟩:=mV (v:=sSub b (sDiv (sMul e h) (fi 3))) (vO f (iI (jX q l j) k c)) i f o;exact⟨g,i,s,f,n,u,p⟩
theorem Ju {h d e a b:Nat} (l:NumW h) (j:h % 9223372036854775808≠0) (t:NN d) (q:NN e) (g:NumW a) (f:NumW b) (r:ae (b:Nat)<=ae (a:Nat)):Down4 a (ptP h d a b) (ptQ h e b (ptP h d a b)) b:=by
 obtain⟨k,c⟩:=iK (m:=3) (by decide) (by decide)
 obtain⟨i,n,o⟩:=mW (v:=sAdd a (sDiv (sMul d h) (fi 3))) (oT g (iI (jX t l j) k c)) g f r;obtain⟨s,u,p⟩:=mW (v:=sSub b (sDiv (sMul e h) (fi 3))) (vO f (iI (jX q l j) k c)) i f n;exact⟨g,i,s,f,o,p,u⟩
theorem olt {x c:Nat} (h:x<18446744073709551616) (hc:c<18446744073709551616):(FloatKind.f64.format.order x c==some .lt)=ltB (x:Nat) (c:Nat):=by
 unfold ltB;cases b:ah (x:Int) with
 | true=>rw [fE b];rfl
 | false=>
  cases a:ah (c:Int) with
  | true=>rw [iX a];rfl
  | false=>rw [jK (aU h) (aU hc) b a];rfl
theorem ogt {x c:Nat} (h:x<18446744073709551616) (hc:c<18446744073709551616):(FloatKind.f64.format.order x c==some .gt)=ltB (c:Nat) (x:Nat):=by
 unfold ltB;cases b:ah (x:Int) with
 | true=>rw [fE b];simp
 | false=>
  cases a:ah (c:Int) with
  | true=>rw [iX a];rfl
  | false=>rw [lO (aU h) (aU hc) b a];rfl
theorem nj (v a b:Nat) (w:World) (l:v<18446744073709551616) (g:NumW a) (f:NumW b) :
  Calls Tryz.prog 224 #[.float .f64 v,.float .f64 a,.float .f64 b] w fun e s=>e=.returned (.float .f64 (heldN v a b))/\s=w:=by
 have k:=aA g.nn.nan f.nn.nan;have d:=aA f.nn.nan g.nn.nan;have o:=olt f.lt g.lt;have q:=eU (aU g.lt) (aU f.lt) g.nn.nan f.nn.nan;have m:=olt l g.lt;have r:=olt l f.lt;have p:=ogt l g.lt;have n:=ogt l f.lt;obtain⟨R,c⟩:∃ R,heldN v a b=R:=⟨_,rfl⟩;rw [c];unfold heldN dJ at c
 rcases Int.lt_trichotomy (ae (a:Nat)) (ae (b:Nat)) with h | h | h
 ·rw [decide_eq_true h] at k
  rw [decide_eq_false (by omega)] at d q
  rw [d] at o
  rw [k,d] at c
  clear k d r p g f l h;cases j:ltB (v:Nat) (a:Nat)<;>cases i:ltB (b:Nat) (v:Nat)
  all_goals
   rw [j] at m c
   rw [i] at n c
   clear j i;simp at c
   subst c
   go_enter Tryz.func224,Tryz.ntmps224
   go_wp2
   go_ret
   exact⟨rfl,rfl⟩
 ·rw [decide_eq_false (by omega)] at k d
  rw [decide_eq_true h] at q
  rw [d] at o
  rw [k,d] at c
  clear k d r n g f l h;cases j:ltB (v:Nat) (a:Nat)<;>cases i:ltB (a:Nat) (v:Nat)
  all_goals
   rw [j] at m c
   rw [i] at p c
   clear j i;simp at c
   subst c
   go_enter Tryz.func224,Tryz.ntmps224
   go_wp2
   go_ret
   exact⟨rfl,rfl⟩
 ·rw [decide_eq_true h] at d
  rw [decide_eq_false (by omega)] at k q
  rw [d] at o
  rw [d] at c
  clear k d m n g f l h;cases j:ltB (v:Nat) (b:Nat)<;>cases i:ltB (a:Nat) (v:Nat)
  all_goals
   rw [j] at r c
   rw [i] at p c
   clear j i;simp at c
   subst c
   go_enter Tryz.func224,Tryz.ntmps224
   go_wp2
   go_ret
   exact⟨rfl,rfl⟩
def prv (xs:List Int):Nat->Int
 | 0=>-1
 | k+1=>xs.getD k 0
def plB (xs:List Int) (i:Nat):Bool:=decide (xs.getD i 0<=prv xs i)||decide (109572<xs.getD i 0)
def vlB (kind:Int) (ys:List Nat) (i:Nat):Bool:=!aE (ys.getD i 0:Nat)||(decide (kind=4)&&!ltB 0 (ys.getD i 0:Nat))
theorem BL (p:Option Addr) (n c:Nat) (w:World) (h:n<1\/256<n) :
  Calls Tryz.prog 199 #[.slice p n c] w fun e a=>e=.returned (.bool false)/\a=w:=by
 rcases h with h | h
 ·have b:decide ((n:Int)<1)=true:=decide_eq_true (by omega)
  clear h
  go_enter Tryz.func199,Tryz.ntmps199
  go_wp2
  go_ret
  exact⟨rfl,rfl⟩
 ·have b:decide ((n:Int)<1)=false:=decide_eq_false (by omega)
  have d:decide ((256:Int)<n)=true:=decide_eq_true (by omega)
  clear h
  go_enter Tryz.func199,Tryz.ntmps199
  go_wp2
  go_ret
  exact⟨rfl,rfl⟩
theorem yH (p:Option Addr) (b off c n K:Nat) (xs:List Int) (w:World) (q:VSrc w p b off n (xV xs)) (hn:1<=n) (u:n<=256) (G:K<=n) (a:∀ i<K,plB xs i=false) (d:K<n->plB xs K=true) :
  Calls Tryz.prog 199 #[.slice p n c] w fun e A=>e=.returned (.bool (decide (n<=K)))/\A=w:=by
 obtain⟨g,h⟩:∃ g,decide (n<=K)=g:=⟨_,rfl⟩;rw [h];have v:Hid (K<n->g=false):=fun F=>by rw [<- h];exact decide_eq_false (by omega)
 have z:Hid (K=n->g=true):=fun F=>by rw [<- h];exact decide_eq_true (by omega)
 clear h;have t:=hideS q;have D:=hideS a;have x:=hideS d;obtain rfl:=q.at_ (by omega)
 have C:decide ((n:Int)<1)=false:=decide_eq_false (by omega)
 have B:decide ((256:Int)<n)=false:=decide_eq_false (by omega)
 clear q a d
 go_enter Tryz.func199,Tryz.ntmps199
 go_wp2_with fail
 clear C B
 go_loop [3,5,16] (fun l _ i=>∃ k:Nat,k<=K/\i=.int .i64 k/\l=.int .i64 (prv xs k)) (fun _ _ i=>n - (intOf i).toNat)
 case atStart=>exact⟨0,Nat.zero_le _,rfl,rfl⟩
 case round=>
  obtain⟨k,H,rfl,rfl⟩:=hrel
  by_cases m:k<K
  ·have r:k<n:=by omega
   have c1:w.cell? ⟨b,off+k,none⟩=some (.int .i64 (xs.getD k 0)):=t.out.cell k r;have f:=D.out k m;unfold plB at f
   rw [Bool.or_eq_false_iff] at f
   obtain⟨s,I⟩:=f;have E:=hideS (show prv xs (k+1)=xs.getD k 0 from rfl)
   generalize prv xs k=l at *
   generalize xs.getD k 0=y at *
   go_wp2_with fail
   go_round
   case rel=>exact⟨k+1,by omega,by simp,by rw [E.out]⟩
   case measure=>simp [intOf];omega
  ·obtain rfl:k=K:=by omega
   by_cases o:k<n
   ·have c1:w.cell? ⟨b,off+k,none⟩=some (.int .i64 (xs.getD k 0)):=t.out.cell k o;have f:=x.out o;unfold plB at f
    have j:=hideS (v.out o);generalize prv xs k=l at *
    generalize xs.getD k 0=y at *
    cases s:decide (y<=l)
    ·rw [s,Bool.false_or] at f
     go_wp2_with fail
     go_ret
     exact⟨by rw [j.out]<;>rfl,rfl⟩
    ·clear f
     go_wp2_with fail
     go_ret
     exact⟨by rw [j.out]<;>rfl,rfl⟩
   ·obtain rfl:k=n:=by omega
    have j:=hideS (z.out rfl)
    go_wp2_with fail
    go_ret
    exact⟨by rw [j.out]<;>rfl,rfl⟩
theorem yI (kind:Int) (p:Option Addr) (b off c n K:Nat) (ys:List Nat) (w:World) (E:VSrc w p b off n (flV ys)) (D:∀ i<n,ys.getD i 0<18446744073709551616) (J:n<=256) (W:K<=n) (l:∀ i<K,vlB kind ys i=false) (u:K<n->vlB kind ys K=true) :
  Calls Tryz.prog 200 #[.int .i64 kind,.slice p n c] w fun e f=>e=.returned (.bool (decide (n<=K)))/\f=w:=by
 obtain⟨g,v⟩:∃ g,decide (n<=K)=g:=⟨_,rfl⟩;rw [v];have z:Hid (K<n->g=false):=fun T=>by rw [<- v];exact decide_eq_false (by omega)
 have N:Hid (K=n->g=true):=fun T=>by rw [<- v];exact decide_eq_true (by omega)
 clear v;have G:=hideS E;have P:=hideS l;have L:=hideS u;have R:=hideS D;clear E l u D
 go_enter Tryz.func200,Tryz.ntmps200
 go_wp2_with fail
 go_loop [6,9] (fun _ i=>∃ k:Nat,k<=K/\i=.int .i64 k) (fun _ i=>n - (intOf i).toNat)
 case atStart=>exact⟨0,Nat.zero_le _,rfl⟩
 case round=>
  obtain⟨k,X,rfl⟩:=hrel
  by_cases B:k<n
  ·have c1:w.cell? ⟨b,off+k,none⟩=some (.float .f64 (ys.getD k 0)):=G.out.cell k B;obtain rfl:=G.out.at_ (by omega)
   have q:=R.out k B;have m:=hideS fun w=>aZ (ys.getD k 0) w (aU q)
   have a:vlB kind ys k=decide (K<=k):=by
    by_cases x:k<K
    ·rw [P.out k x,decide_eq_false (by omega)]
    ·obtain rfl:k=K:=by omega
     rw [L.out B,decide_eq_true (Nat.le_refl k)]
   have A:=olt q (show (0:Nat)<18446744073709551616 by decide)
   unfold vlB at a
   cases h:ah (ys.getD k 0:Nat) with
   | true=>
    rw [lP h,Bool.not_false,Bool.true_or] at a
    have d:=of_decide_eq_true a.symm;have o:=hideS (z.out (by omega))
    rw [h] at m
    clear a A h d q;generalize ys.getD k 0=y at *
    go_wp2_with (first | (go_at_call 70;refine (m.out _).mono ?_;rintro e f ⟨rfl,rfl⟩))
    go_ret
    exact⟨by rw [o.out]<;>rfl,rfl⟩
   | false=>
    have t:=hideS fun w=>iM (ys.getD k 0) _ w (aU q) (qH h)
    have F:=eU (aU q) (aU (show (0:Nat)<18446744073709551616 by decide)) h (by decide)
    have I:ltB 0 (ys.getD k 0:Nat)=!((FloatKind.f64.format.order (ys.getD k 0) 0==some .lt)||(FloatKind.f64.format.order (ys.getD k 0) 0==some .eq)):=by
     rw [A,F,aA (by decide) h]
     have H:ae ((0:Nat):Int)=0:=by decide
     have C:ae (0:Int)=0:=by decide
     have e:ltB (ys.getD k 0:Nat) ((0:Nat):Int)=decide (ae (ys.getD k 0:Nat)<0):=by rw [aA h (by decide),H]
     rw [e,H,C];generalize ae (ys.getD k 0:Nat)=r
     by_cases Q:r<0<;>by_cases U:r=0<;>by_cases O:0<r<;>simp [Q,U,O]<;>omega
    rw [I] at a
    rw [h] at m
    clear A F I q h;generalize ys.getD k 0=y at *
    cases j:aE (y:Nat) with
    | false=>
     rw [j] at t a
     rw [Bool.not_false,Bool.true_or] at a
     have d:=of_decide_eq_true a.symm;have o:=hideS (z.out (by omega))
     clear a d j
     go_wp2_with (first | (go_at_call 70;refine (m.out _).mono ?_;rintro e f ⟨rfl,rfl⟩) | (go_at_call 71;refine (t.out _).mono ?_;rintro e f ⟨rfl,rfl⟩))
     go_ret
     exact⟨by rw [o.out]<;>rfl,rfl⟩
    | true=>
     rw [j] at t a
     rw [Bool.not_true,Bool.false_or,Bool.not_not] at a
     clear j;cases s:decide (kind=4) with
     | false=>
      rw [s,Bool.false_and] at a
      have d:=of_decide_eq_false a.symm;have S:(kind==4)=false:=beq_eq_false_iff_ne.2 (of_decide_eq_false s);clear a s
      go_wp2_with (first | (go_at_call 70;refine (m.out _).mono ?_;rintro e f ⟨rfl,rfl⟩) | (go_at_call 71;refine (t.out _).mono ?_;rintro e f ⟨rfl,rfl⟩))
      go_round
      case rel=>exact⟨k+1,by omega,by simp⟩
      case measure=>simp [intOf];omega
     | true=>
      rw [s,Bool.true_and] at a
      obtain rfl:=of_decide_eq_true s;clear s;cases V:(FloatKind.f64.format.order y 0==some .lt)<;>cases M:(FloatKind.f64.format.order y 0==some .eq)
      all_goals
       rw [V,M] at a
      ·have d:=of_decide_eq_false a.symm;clear a
       go_wp2_with (first | (go_at_call 70;refine (m.out _).mono ?_;rintro e f ⟨rfl,rfl⟩) | (go_at_call 71;refine (t.out _).mono ?_;rintro e f ⟨rfl,rfl⟩))
       go_round
       case rel=>exact⟨k+1,by omega,by simp⟩
       case measure=>simp [intOf];omega
      all_goals
       have d:=of_decide_eq_true a.symm;have o:=hideS (z.out (by omega))
       clear a d
       go_wp2_with (first | (go_at_call 70;refine (m.out _).mono ?_;rintro e f ⟨rfl,rfl⟩) | (go_at_call 71;refine (t.out _).mono ?_;rintro e f ⟨rfl,rfl⟩))
       go_ret
       exact⟨by rw [o.out]<;>rfl,rfl⟩
  ·obtain rfl:k=n:=by omega
   obtain rfl:K=k:=by omega
   have o:=hideS (N.out rfl)
   go_wp2_with fail
   go_ret
   exact⟨by rw [o.out]<;>rfl,rfl⟩
theorem qP (k:Int) (w:World) (h:k<1\/4<k) :
  Calls Tryz.prog 198 #[.int .i64 k] w fun e a=>e=.returned .nilFunc/\a=w:=by
 have f:(k==1)=false:=beq_eq_false_iff_ne.2 (by omega)
 have d:(k==2)=false:=beq_eq_false_iff_ne.2 (by omega)
 have c:(k==3)=false:=beq_eq_false_iff_ne.2 (by omega)
 have b:(k==4)=false:=beq_eq_false_iff_ne.2 (by omega)
 clear h
 go_enter Tryz.func198,Tryz.ntmps198
 go_wp2_with fail
 go_ret
 exact⟨rfl,rfl⟩
def iZ (kind:Int):Nat:=if kind=1 then 212 else if kind=2 then 213 else if kind=3 then 214 else 215
theorem qQ (k:Int) (w:World) (c:1<=k) (a:k<=4) :
  Calls Tryz.prog 198 #[.int .i64 k] w fun e b=>e=.returned (.func (.func (iZ k)) #[] #[])/\b=w:=by
 rcases (show k=1\/k=2\/k=3\/k=4 by omega) with rfl | rfl | rfl | rfl
 all_goals
  clear c a
  go_enter Tryz.func198,Tryz.ntmps198
  go_wp2_with fail
  go_ret
  exact⟨rfl,rfl⟩
end Go.Proofs.YtfdddijdjpijbaaGreat
