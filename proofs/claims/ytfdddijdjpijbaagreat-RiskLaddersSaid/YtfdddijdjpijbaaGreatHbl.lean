/-  -/
import Derived.Test.YtfdddijdjpijbaaGreatHbc
import Derived.Test.YtfdddijdjpijbaaGreatHbk
import Derived.Test.YtfdddijdjpijbaaGreatHaz
import Derived.Test.YtfdddijdjpijbaaGreatHbi
import Derived.Test.YtfdddijdjpijbaaGreatHar
import Derived.Test.YtfdddijdjpijbaaGreatHba
set_option maxHeartbeats 6400000
namespace Go.Proofs.YtfdddijdjpijbaaGreat
open Go.RowKit
def wAt (a:List Int) (ys:List Nat):Nat->A.St
 | 0=>⟨0,0⟩
 | k+1=>(wAt a ys k).merge (A.bn (fi (a.getD k 0)) (ys.getD k 0))
theorem jh (R ox cx H U cy n d:Nat) (g:List Int) (ys:List Nat) (w:World) (hX:VSrc w (some ⟨R,ox,none⟩) R ox n (xV g)) (hY:VSrc w (some ⟨H,U,none⟩) H U n (yV ys)) (hn:1<=n) (bs:n<=10) (hw:∀ i<n,-9007199254740992<=g.getD i 0/\g.getD i 0<=9007199254740992) (hy:∀ i<n,ys.getD i 0<18446744073709551616) (hd:1<=d) (bc:d<=9223372036854775807) :
  Calls Tryz.prog 146 #[.slice (some ⟨R,ox,none⟩) n cx,.slice (some ⟨H,U,none⟩) n cy,.int .i64 (d:Int)] w fun e w'=>e=.returned (.int .u64 (aR (wAt g ys n) d:Int))/\Below w.heap.size w w':=by
 have HX:=hideS hX;have HY:=hideS hY;have HW:=hideS hw;have ba:=hideS hy;have H0:=hideS (IA w);obtain⟨ai,z⟩:∃ ai:Int,(aR (wAt g ys n) d:Int)=ai:=⟨_,rfl⟩;have am:=hideS z;rw [z];clear hX hY hw hy z
 go_enter Tryz.func146,Tryz.ntmps146
 go_wp2_with fail
 go_loopw [8] (fun i wr=>∃ k:Nat,k<=n/\i=.int .i64 k/\Hid (Held w wr w.heap.size (wAt g ys k) k)) (fun i _=>n - (intOf i).toNat)
 case atStart=>exact⟨0,Nat.zero_le _,rfl,H0⟩
 case round=>
  clear H0;obtain⟨k,hk,rfl,HH⟩:=hrel;obtain⟨⟨neg,va,M,ee,G,q,O,v⟩,f,L,j⟩:=HH.out;have u:=dX G
  by_cases F:k<n
  ·have bk:wr.cell? ⟨R,ox+k,none⟩=some (.int .i64 (g.getD k 0)):=(f.cell (p:=⟨R,ox+k,none⟩) (HX.out.lt (by omega))).trans (HX.out.cell k F)
   have al:wr.cell? ⟨H,U+k,none⟩=some (.int .u64 ((ys.getD k 0:Nat):Int)):=(f.cell (p:=⟨H,U+k,none⟩) (HY.out.lt (by omega))).trans (HY.out.cell k F)
   have ab:H<wr.heap.size:=Nat.lt_of_lt_of_le (HY.out.lt (by omega)) f.size
   have ad:R<wr.heap.size:=Nat.lt_of_lt_of_le (HX.out.lt (by omega)) f.size
   have P:=HW.out k F;have K:=ba.out k F;have HI:=hideS fun wx=>cV (g.getD k 0) wx (by omega) (by omega)
   have J:=kn P.1 P.2;obtain⟨x,Q⟩:∃ x,fi (g.getD k 0)=x:=⟨_,rfl⟩;obtain⟨xi,E⟩:∃ xi:Int,xi=(x:Int):=⟨_,rfl⟩;obtain⟨y,C⟩:∃ y,ys.getD k 0=y:=⟨_,rfl⟩;obtain⟨yi,D⟩:∃ yi:Int,yi=(y:Int):=⟨_,rfl⟩;have X:Hid (wAt g ys (k+1)=(wAt g ys k).merge (A.bn x y)):=by show _=_;rw [<- Q,<- C];rfl
   rw [Q] at HI J
   rw [C] at K
   rw [C,<- D] at al
   rw [<- E] at HI
   have as:=hideS E;have bh:=hideS D;have HU:Hid (U64 xi):=by show U64 _;rw [E];exact aU J
   have bb:Hid (U64 yi):=by show U64 _;rw [D];exact aU K
   generalize g.getD k 0=wk at *
   obtain⟨a,ak⟩:∃ a,wAt g ys k=a:=⟨_,rfl⟩;rw [ak] at v u G X
   obtain⟨S,T,W,rfl⟩:=q.shape;have bi:Hid (∀ m,Below wr.heap.size wr m->Calls Tryz.prog 67 #[AV (a.s:Int) neg (.slice S T W) ee,.int .u64 xi,.int .u64 yi] m (cj m (.slice S T W) M (wAt g ys (k+1)) (k+1))):=fun m h=>by
    have:=Ob a.s neg (.slice S T W) M ee a.N k x y xi yi m (q.below h) v (oE (by omega)) HU.out bb.out as bh
    rw [IB,<- X.out] at this
    exact this
   have Y:Hid (∀ m,Below wr.heap.size wr m->∀ V r,cj m (.slice S T W) M (wAt g ys (k+1)) (k+1) r V->∃ t p l c e',r=.returned (AV ((wAt g ys (k+1)).s:Int) t (.slice p l c) e')/\Held4 V w.heap.size (a.s:Int) neg (.slice S T W) ee/\Held w (put4 V w.heap.size ((wAt g ys (k+1)).s:Int) t (.slice p l c) e') w.heap.size (wAt g ys (k+1)) (k+1)):=fun m h V r o=>
    xE (wr:=m) (by rw [h.block w.heap.size j];exact G) O (f.trans (h.mono f.size)) L (Nat.lt_of_lt_of_le j h.size) o
   have q0:=u.c0;have q1:=u.c1;have q2:=u.c2;have q3:=u.c3;have HZ:=hideS (And.intro j (And.intro ad ab));have g3:(0:Int)<=(k:Int):=by omega
   have g4:(k:Int)<(n:Int):=by omega
   clear Q E ak q v G O L j u HH C D P K J ab ad f
   go_wp2_with fail
   go_region_with (first | ((go_at_call 101;refine (HI.out _).mono ?_;rintro r m ⟨rfl,h⟩;have b:Below wr.heap.size wr m:=((Below.refl wr.heap.size wr).drew.trans h);have I:=hideS b;have c0:=(b.cell (p:=⟨w.heap.size,0,none⟩) HZ.out.1).trans q0;have c1:=(b.cell (p:=⟨w.heap.size,1,none⟩) HZ.out.1).trans q1;have c2:=(b.cell (p:=⟨w.heap.size,2,none⟩) HZ.out.1).trans q2;have c3:=(b.cell (p:=⟨w.heap.size,3,none⟩) HZ.out.1).trans q3;have br:=(b.cell (p:=⟨H,U+k,none⟩) HZ.out.2.2).trans al;have ac:=hideS (bi.out m b);clear h b)) | ((go_at_call 67;refine ac.out.mono ?_;intro r V o;obtain⟨t,p4,l4,c4,e4,rfl,B,hH⟩:=Y.out m I.out V r o;have HH:=hideS hH;have k0:=B.c0;have k1:=B.c1;have k2:=B.c2;have k3:=B.c3;have l0:=B.f0;have l1:=B.f1;have l2:=B.f2;have l3:=B.f3;clear o hH B)))
   all_goals
    go_wp2_with fail
    go_roundw
    case rel=>exact⟨k+1,by omega,by simp,HH⟩
    case measure=>simp [intOf];omega
  ·obtain rfl:k=n:=by omega
   obtain⟨S,T,W,rfl⟩:=q.shape;have q0:=u.c0;have q1:=u.c1;have q2:=u.c2;have q3:=u.c3;have HV:=hideS (OK _ neg _ M ee _ k d wr q v (oE (by omega)) hd bc)
   rw [IB,am.out] at HV
   have Z:=hideS f;have bo:¬ (k:Int)<(k:Int):=by omega
   clear q v G O f L j u HH
   go_wp2_with fail
   refine HV.out.mono ?_
   rintro r m ⟨rfl,G⟩;have I:=hideS (Z.out.trans (G.mono Z.out.size));clear G
   go_wp2_with fail
   go_ret
   exact⟨rfl,I.out⟩
def lH (w:World) (kind:Int) (d c:Value) (x k E:Int):Prop:=∀ a,Below w.heap.size w a->Calls Tryz.prog 145 #[.agg #[.int .i64 kind,d,c],.int .i64 x] a fun e b=>e=.returned (.tuple #[.int .i64 k,.int .i64 E])/\Below a.heap.size a b
theorem OL (kind x k E:Int) (c a:Value) (w:World) (d:E≠0) (H:Hid (lH w kind c a x k E)) :
  Calls Tryz.prog 107 #[.agg #[.int .i64 kind,c,a],.int .i64 x] w fun e g=>e=.returned (.tuple #[.int .u64 0,.int .i64 E])/\Below w.heap.size w g:=by
 have f:=hideS (bQ w kind c a);have h:(E !=0)=true:=bne_iff_ne.2 d;unfold lH at H
 clear d
 go_enter Tryz.func107,Tryz.ntmps107
 go_wp2_with (go_at_call 145;refine (H.out _ f.out.bl).mono ?_;rintro e i ⟨rfl,b⟩)
 go_ret2
 exact⟨rfl,(f.out.step b).bl⟩
theorem Mt (kind x:Int) (g i cx j f cy n k:Nat) (d:Int) (y0:Nat) (w:World)
  (p:∀ c,Below w.heap.size w c->c.cell? ⟨g,i+k,none⟩=some (.int .i64 d)/\c.cell? ⟨j,f+k,none⟩=some (.int .u64 (y0:Int)))
  (u:k<n) (_:n<=256) (h:d=x\/(d≠x/\kind=1)) (H:Hid (lH w kind (.slice (some ⟨g,i,none⟩) n cx) (.slice (some ⟨j,f,none⟩) n cy) x (k:Int) 0)) :
  Calls Tryz.prog 107 #[.agg #[.int .i64 kind,.slice (some ⟨g,i,none⟩) n cx,.slice (some ⟨j,f,none⟩) n cy],.int .i64 x] w fun e c=>e=.returned (.tuple #[.int .u64 (y0:Int),.int .i64 0])/\Below w.heap.size w c:=by
 have l:=hideS (bQ w kind (.slice (some ⟨g,i,none⟩) n cx) (.slice (some ⟨j,f,none⟩) n cy));unfold lH at H
 have o:=hideS p;have y:(0:Int)<=(k:Int):=by omega
 have v:(k:Int)<(n:Int):=by omega
 clear p;rcases h with h | ⟨h,t⟩
 ·subst h
  go_enter Tryz.func107,Tryz.ntmps107
  go_wp2_with fail
  refine (H.out _ l.out.bl).mono ?_
  rintro e m ⟨rfl,b⟩;have a:=hideS (l.out.step b);clear b;obtain⟨s,q,r,_,_⟩:=a.out;obtain⟨c0,c1⟩:=o.out m a.out.bl
  go_wp2_with fail
  go_ret2
  exact⟨rfl,a.out.bl⟩
 ·subst t;have z:(d==x)=false:=beq_false_of_ne h
  go_enter Tryz.func107,Tryz.ntmps107
  go_wp2_with fail
  refine (H.out _ l.out.bl).mono ?_
  rintro e m ⟨rfl,b⟩;have a:=hideS (l.out.step b);clear b;obtain⟨s,q,r,_,_⟩:=a.out;obtain⟨c0,c1⟩:=o.out m a.out.bl
  go_wp2_with fail
  go_ret2
  exact⟨rfl,a.out.bl⟩
theorem lI (w:World) (a b:Int):VSrc (w.alloc (.cells #[.int .i64 a,.int .i64 b] 3)) (some ⟨w.heap.size,0,none⟩) w.heap.size 0 2 (xV [a,b]):=
 ⟨fun _=>rfl,fun _=>by simp,fun j c=>by
  rcases (show j=0\/j=1 by omega) with rfl | rfl
  ·simp [xV]
  ·simp [xV]⟩
structure ARd (w:World) (B:Nat) (kind:Int) (vx vy:Value) (bx ox b2 oy k:Nat) (x0 x1:Int) (y0 y1:Nat):Prop where
 t0:w.cell? ⟨B,0,none⟩=some (.int .i64 kind)
 t1:w.cell? ⟨B,1,none⟩=some vx
 t2:w.cell? ⟨B,2,none⟩=some vy
 a0:w.cell? ⟨bx,ox+k,none⟩=some (.int .i64 x0)
 a1:w.cell? ⟨bx,ox+(k+1),none⟩=some (.int .i64 x1)
 b0:w.cell? ⟨b2,oy+k,none⟩=some (.int .u64 (y0:Int))
 b1:w.cell? ⟨b2,oy+(k+1),none⟩=some (.int .u64 (y1:Int))
 ly:b2<w.heap.size
theorem TBox.drewN {w wr:World} {kind:Int} {a b:Value} (h:TBox w kind a b wr) (m:Nat):TBox w kind a b (wr.drewN m):=⟨h.t0,h.t1,h.t2,⟨h.bl.os,h.bl.tape,h.bl.output,h.bl.size,h.bl.block⟩,h.lt⟩
theorem OM (x:Int) (h q cx b a cy n k D:Nat) (f z i:Int) (y0 y1:Nat) (w:World)
  (U:∀ m,TBox w 2 (.slice (some ⟨h,q,none⟩) n cx) (.slice (some ⟨b,a,none⟩) n cy) m->ARd m w.heap.size 2 (.slice (some ⟨h,q,none⟩) n cx) (.slice (some ⟨b,a,none⟩) n cy) h q b a k f z y0 y1)
  (hk:k+1<n) (hn:n<=256) (ab:n<=cy) (O:cy<=9223372036854775807) (h0:0<=f) (h1:z<=109572) (hD:z - f=(D:Int)) (hi:x - f=i) (V:0<i) (Y:i<(D:Int)) (y:y0<18446744073709551616) (t:y1<18446744073709551616) (H:Hid (lH w 2 (.slice (some ⟨h,q,none⟩) n cx) (.slice (some ⟨b,a,none⟩) n cy) x (k:Int) 0)) :
  Calls Tryz.prog 107 #[.agg #[.int .i64 2,.slice (some ⟨h,q,none⟩) n cx,.slice (some ⟨b,a,none⟩) n cy],.int .i64 x] w fun e m=>e=.returned (.tuple #[.int .u64 (aR (wAt [(D:Int) - i,i] [y0,y1] 2) D:Int),.int .i64 0])/\Below w.heap.size w m:=by
 have L:=hideS (bQ w 2 (.slice (some ⟨h,q,none⟩) n cx) (.slice (some ⟨b,a,none⟩) n cy));unfold lH at H
 have M:=hideS U;have F:Hid (∀ c,b<c.heap.size->c.cell? ⟨b,a+k,none⟩=some (.int .u64 (y0:Int))->c.cell? ⟨b,a+(k+1),none⟩=some (.int .u64 (y1:Int))->Calls Tryz.prog 146 #[.slice (some ⟨c.heap.size,0,none⟩) 2 2,.slice (some ⟨b,a+k,none⟩) 2 (cy - k),.int .i64 (D:Int)] (c.alloc (.cells #[.int .i64 ((D:Int) - i),.int .i64 i] 3)) fun e m=>e=.returned (.int .u64 (aR (wAt [(D:Int) - i,i] [y0,y1] 2) D:Int))/\Below c.heap.size c m):=fun c I c0 c1=>by
  have d:Below c.heap.size c (c.alloc (.cells #[.int .i64 ((D:Int) - i),.int .i64 i] 3)):=(Below.refl _ _).alloc (Nat.le_refl _) _;refine (jh c.heap.size 0 2 b (a+k) (cy - k) 2 D [(D:Int) - i,i] [y0,y1] _ (lI c _ _) ⟨fun _=>rfl,fun _=>Nat.lt_of_lt_of_le I d.size,fun j K=>?_⟩ (by omega) (by omega) (fun j K=>?_) (fun j K=>?_) (by omega) (by omega)).mono ?_
  ·rcases (show j=0\/j=1 by omega) with rfl | rfl
   ·exact (d.cell (p:=⟨b,a+k,none⟩) I).trans c0
   ·rw [show a+k+1=a+(k+1) by omega];exact (d.cell (p:=⟨b,a+(k+1),none⟩) I).trans c1
  ·rcases (show j=0\/j=1 by omega) with rfl | rfl
   ·show -9007199254740992<=(D:Int) - i/\_;exact⟨by omega,by show (D:Int) - i<=_;omega⟩
   ·show -9007199254740992<=i/\i<=_;omega
  ·rcases (show j=0\/j=1 by omega) with rfl | rfl
   ·exact y
   ·exact t
  ·rintro e m ⟨rfl,X⟩;exact⟨rfl,d.trans (X.mono d.size)⟩
 generalize aR (wAt [(D:Int) - i,i] [y0,y1] 2) D=R at *
 have f1:IntKind.i64.wrap ((k:Int)+1)=(k:Int)+1:=by rw [IntKind.wrap_i64];omega
 have f2:IntKind.i64.wrap (z - f)=z - f:=by rw [IntKind.wrap_i64];omega
 have g1:(0:Int)<=(k:Int)+1:=by omega
 have g2:(k:Int)+1<(n:Int):=by omega
 have g3:(0:Int)<=(k:Int):=by omega
 have g4:(k:Int)<(n:Int):=by omega
 have hx:(f==x)=false:=beq_false_of_ne (by omega)
 have Z:(D:Int)<=109572:=by omega
 clear U y t
 go_enter Tryz.func107,Tryz.ntmps107
 go_wp2_with fail
 refine (H.out _ L.out.bl).mono ?_
 rintro e N ⟨rfl,u⟩;have l:=hideS (L.out.step u);clear u;have W:=M.out N l.out;obtain⟨S,T,A,P,Q,G,B,C⟩:=W
 go_wp2_with fail
 go_quiet (fail)
 obtain⟨g,r⟩:∃ g,N.drewN nq=g:=⟨_,rfl⟩;rw [r];have s:Hid (TBox w 2 (.slice (some ⟨h,q,none⟩) n cx) (.slice (some ⟨b,a,none⟩) n cy) g):=by show TBox _ _ _ _ _;rw [<- r];exact l.out.drewN nq
 clear r S T A P Q G B C l;obtain⟨S,T,A,P,Q,G,B,C⟩:=M.out g s.out;have hz:w.heap.size<g.heap.size:=s.out.lt;have c2:∀ o,(g.alloc o).cell? ⟨w.heap.size,2,none⟩=some (.slice (some ⟨b,a,none⟩) n cy):=fun o=>(((Below.refl g.heap.size g).alloc (Nat.le_refl _) o).cell (p:=⟨w.heap.size,2,none⟩) hz).trans A
 have E:=hideS (F.out g C G B);have f3:IntKind.i64.wrap (x - f)=x - f:=by rw [IntKind.wrap_i64];omega
 have f4:IntKind.i64.wrap ((k:Int)+2)=(k:Int)+2:=by rw [IntKind.wrap_i64];omega
 have g7:(k:Int)+2<=(n:Int):=by omega
 have g8:(k:Int)<=(k:Int)+2:=by omega
 have g9:(k:Int)+2<=(cy:Int):=by omega
 go_wp2_with fail
 refine E.out.mono ?_
 rintro e w2 ⟨rfl,v⟩;have J:=hideS (s.out.step v);clear v
 go_wp2_with fail
 go_ret2
 exact⟨rfl,J.out.bl⟩
theorem sc {a b A B:Int} (d:0<=a) (f:a<=A) (c:0<=b) (e:b<=B):0<=a*b/\a*b<=A*B:=⟨Int.mul_nonneg d c,Int.mul_le_mul f e c (by omega)⟩
theorem IG (w:World) (a b c d:Int):VSrc (w.alloc (.cells #[.int .i64 a,.int .i64 b,.int .i64 c,.int .i64 d] 3)) (some ⟨w.heap.size,0,none⟩) w.heap.size 0 4 (xV [a,b,c,d]):=
 ⟨fun _=>rfl,fun _=>by simp,fun j e=>by
  rcases (show j=0\/j=1\/j=2\/j=3 by omega) with rfl | rfl | rfl | rfl
  ·simp [xV]
  ·simp [xV]
  ·simp [xV]
  ·simp [xV]⟩
structure CubW (D i e q1 q2 r1 r2 r3 s2 s3 t1 t2 n1 n2:Int):Prop where
 hq1:e*e=q1
 hq2:q1*e=q2
 hr1:3*e=r1
 hr2:r1*e=r2
 hr3:r2*i=r3
 hs2:r1*i=s2
 hs3:s2*i=s3
 ht1:i*i=t1
 ht2:t1*i=t2
 hn1:D*D=n1
 hn2:n1*D=n2
 b:(0<=q1/\q1<=12006023184)/\(0<=q2/\q2<=1315523972317248)/\(0<=r1/\r1<=328716)/\(0<=r2/\r2<=36018069552)/\(0<=r3/\r3<=3946571916951744)/\(0<=s2/\s2<=36018069552)/\(0<=s3/\s3<=3946571916951744)/\(0<=t1/\t1<=12006023184)/\(0<=t2/\t2<=1315523972317248)/\(0<=n1/\n1<=12006023184)/\(0<=n2/\n2<=1315523972317248)
theorem uZ {D i e:Int} (d:0<=i) (hi:i<=109572) (a:0<=e) (f:e<=109572) (b:0<=D) (m:D<=109572):∃ t x y p w n s t1 r z v,CubW D i e t x y p w n s t1 r z v:=by
 have g:=sc a f a f;have q:=sc g.1 g.2 a f;have j:=sc (show 0<=3*e by omega) (show 3*e<=328716 by omega) a f
 have o:=sc j.1 j.2 d hi;have l:=sc (show 0<=3*e by omega) (show 3*e<=328716 by omega) d hi
 have A:=sc l.1 l.2 d hi;have h:=sc d hi d hi;have u:=sc h.1 h.2 d hi;have c:=sc b m b m;have k:=sc c.1 c.2 b m;exact⟨_,_,_,_,_,_,_,_,_,_,_,rfl,rfl,rfl,rfl,rfl,rfl,rfl,rfl,rfl,rfl,rfl,g,q,⟨by omega,by omega⟩,j,o,l,A,h,u,c,k⟩
theorem ON (x:Int) (t u cx B C cy n k D y:Nat) (m L i e q1 q r1 r2 o s2 s P a n1:Int) (ps:List Nat) (w:World)
  (hR:∀ d,TBox w 3 (.slice (some ⟨t,u,none⟩) n cx) (.slice (some ⟨B,C,none⟩) n cy) d->d.cell? ⟨t,u+k,none⟩=some (.int .i64 m)/\d.cell? ⟨t,u+(k+1),none⟩=some (.int .i64 L))
  (hk:k+1<n) (hn:n<=256) (h0:0<=m) (h1:L<=109572) (hD:L - m=(D:Int)) (hi:x - m=i) (he:(D:Int) - i=e) (as:0<i) (br:i<(D:Int)) (hC:CubW (D:Int) i e q1 q r1 r2 o s2 s P a n1 (y:Int)) (S:1<=y) (F:ps.length=4) (A:∀ j<4,ps.getD j 0<18446744073709551616)
  (H:Hid (lH w 3 (.slice (some ⟨t,u,none⟩) n cx) (.slice (some ⟨B,C,none⟩) n cy) x (k:Int) 0))
  (I:Hid (∀ b,Below w.heap.size w b->Calls Tryz.prog 147 #[.agg #[.int .i64 3,.slice (some ⟨t,u,none⟩) n cx,.slice (some ⟨B,C,none⟩) n cy],.int .i64 (k:Int)] b fun e d=>∃ v,e=.returned (.tuple #[v,.int .i64 0])/\d.ownsRow b.heap.size 41 1 v 4 (ps.map uV)/\Below b.heap.size b d)) :
  Calls Tryz.prog 107 #[.agg #[.int .i64 3,.slice (some ⟨t,u,none⟩) n cx,.slice (some ⟨B,C,none⟩) n cy],.int .i64 x] w fun e d=>e=.returned (.tuple #[.int .u64 (aR (wAt [q,o,s,a] ps 4) y:Int),.int .i64 0])/\Below w.heap.size w d:=by
 have HB:=hideS (bQ w 3 (.slice (some ⟨t,u,none⟩) n cx) (.slice (some ⟨B,C,none⟩) n cy));unfold lH at H
 have HR:=hideS hR;obtain⟨bz,al,cp,cm,bs,cl,bh,bb,ba,am,bv,⟨p1,bi⟩,⟨p2,cq⟩,⟨p3,ci⟩,⟨p4,cc⟩,⟨p5,ak⟩,⟨p6,bc⟩,⟨p7,bk⟩,⟨p8,cf⟩,⟨p9,ad⟩,⟨bo,ac⟩,⟨cr,ab⟩⟩:=hC;have K:Hid (∀ b g c,g<b.heap.size->(∀ j<4,b.cell? ⟨g,j,none⟩=some (.int .u64 (ps.getD j 0:Nat)))->Calls Tryz.prog 146 #[.slice (some ⟨b.heap.size,0,none⟩) 4 4,.slice (some ⟨g,0,none⟩) 4 c,.int .i64 (y:Int)] (b.alloc (.cells #[.int .i64 q,.int .i64 o,.int .i64 s,.int .i64 a] 3)) fun e d=>e=.returned (.int .u64 (aR (wAt [q,o,s,a] ps 4) y:Int))/\Below b.heap.size b d):=fun b g c hl hc=>by
  have h:Below b.heap.size b (b.alloc (.cells #[.int .i64 q,.int .i64 o,.int .i64 s,.int .i64 a] 3)):=(Below.refl _ _).alloc (Nat.le_refl _) _;refine (jh b.heap.size 0 4 g 0 c 4 y [q,o,s,a] ps _ (IG b _ _ _ _) ⟨fun _=>rfl,fun _=>Nat.lt_of_lt_of_le hl h.size,fun j M=>?_⟩ (by omega) (by omega) (fun j M=>?_) A S (by omega)).mono ?_
  ·rw [Nat.zero_add];exact (h.cell (p:=⟨g,j,none⟩) hl).trans (hc j M)
  ·rcases (show j=0\/j=1\/j=2\/j=3 by omega) with rfl | rfl | rfl | rfl
   ·show -9007199254740992<=q/\q<=_;omega
   ·show -9007199254740992<=o/\o<=_;omega
   ·show -9007199254740992<=s/\s<=_;omega
   ·show -9007199254740992<=a/\a<=_;omega
  ·rintro e d ⟨rfl,hb⟩;exact⟨rfl,h.trans (hb.mono h.size)⟩
 generalize aR (wAt [q,o,s,a] ps 4) y=R at *
 have r:=hideS (And.intro F A);have f1:IntKind.i64.wrap ((k:Int)+1)=(k:Int)+1:=by rw [IntKind.wrap_i64];omega
 have f2:IntKind.i64.wrap (L - m)=L - m:=by rw [IntKind.wrap_i64];omega
 have f3:IntKind.i64.wrap (x - m)=x - m:=by rw [IntKind.wrap_i64];omega
 have g1:(0:Int)<=(k:Int)+1:=by omega
 have g2:(k:Int)+1<(n:Int):=by omega
 have g3:(0:Int)<=(k:Int):=by omega
 have g4:(k:Int)<(n:Int):=by omega
 have hx:(m==x)=false:=beq_false_of_ne (by omega)
 have ca:(D:Int)<=109572:=by omega
 have ai:0<=e:=by omega
 have cd:e<=109572:=by omega
 clear hR F A
 go_enter Tryz.func107,Tryz.ntmps107
 go_wp2_with fail
 refine (H.out _ HB.out.bl).mono ?_
 rintro e w1 ⟨rfl,E⟩;have l:=hideS (HB.out.step E);clear E;obtain⟨U,V⟩:=HR.out w1 l.out;obtain⟨W,X,Q,_,_⟩:=l.out
 go_wp2_with fail
 go_quiet (fail)
 obtain⟨N,z⟩:∃ N,w1.drewN nq=N:=⟨_,rfl⟩;rw [z];have f:Hid (TBox w 3 (.slice (some ⟨t,u,none⟩) n cx) (.slice (some ⟨B,C,none⟩) n cy) N):=by show TBox _ _ _ _ _;rw [<- z];exact l.out.drewN nq
 clear z W X Q U V l;obtain⟨U,V⟩:=HR.out N f.out;obtain⟨W,X,Q,_,_⟩:=f.out
 go_wp2_with fail
 refine (I.out _ f.out.bl).mono ?_
 rintro e w2 ⟨v,rfl,ho,G⟩;obtain⟨pp,g,c,rfl,O,_,_,_⟩:=bq ho r.out.1;obtain rfl:=O.at_ (by rw [r.out.1];omega)
 have Z:=hideS (f.out.step G);have T:=hideS (K.out w2 g c (O.lt (by rw [r.out.1];omega)) (fun j M=>by have:=O.cell j (by rw [r.out.1];exact M);rw [Nat.zero_add] at this;exact this))
 clear G ho O W X Q U V f K I
 go_wp2_with fail
 refine T.out.mono ?_
 rintro e w3 ⟨rfl,J⟩;have Y:=hideS (Z.out.step J);clear J
 go_wp2_with fail
 go_ret2
 exact⟨rfl,Y.out.bl⟩
theorem EK {a b:Int} {p q:Nat} (c:a+1074=(p:Int)) (d:b+1074=(q:Int)):(a+b+2148).toNat=p+q:=by omega
theorem EL {x y:Nat} (v:x<18446744073709551616) (e:af x) (u:y<18446744073709551616) (i:af y):A.bn x y=⟨0,vI x*vI y⟩:=by
 obtain⟨n,f,j,p⟩:=IM v e;obtain⟨r,h,o,q⟩:=IM u i;have l:A.bn x y=A.fF (x:Int) (y:Int):=by unfold A.bn;rw [n,r];rfl
 have d:aA (x:Int)*aA (y:Int)*2^(aQ (x:Int)+aQ (y:Int)+2148).toNat=vI x*vI y:=by
  rw [<- j,<- o]
  by_cases g:aA (x:Int)=0
  ·rw [g,Int.zero_mul,Int.zero_mul,Int.zero_mul,Int.zero_mul]
  ·by_cases c:aA (y:Int)=0
   ·rw [c,Int.zero_mul,Int.mul_zero,Int.zero_mul,Int.mul_zero]
   ·have a:=p g;have b:=q c;rw [EK a b,Int.pow_add,Int.natCast_pow,Int.natCast_pow];clear l j o p q a b g c n r;generalize aA (x:Int)=m;generalize aA (y:Int)=k
    show m*k*(2^f*2^h)=m*2^f*(k*2^h)
    generalize (2:Int)^f=s;generalize (2:Int)^h=t;simp only [Int.mul_assoc,Int.mul_left_comm k]
 rw [l];exact congrArg (A.St.mk 0) d
theorem gJ {m:Int} {y K:Nat} (h:K=1074) (g: -9007199254740992<=m) (i:m<=9007199254740992) (f:y<18446744073709551616) (e:af y):A.bn (fi m) y=⟨0,m*uI K y⟩:=by
 obtain⟨a,b,c,d⟩:=nA (m:=m) h g i;rw [EL d b f e,a];unfold uI
 congr 1
 rw [Int.mul_assoc,Int.mul_comm (((2^K:Nat)):Int)]
theorem mK (a b:Int):A.St.merge ⟨0,a⟩ ⟨0,b⟩=⟨0,a+b⟩:=rfl
theorem vh {a b:Int} {y0 y1 K:Nat} (d:K=1074) (c: -9007199254740992<=a/\a<=9007199254740992) (e: -9007199254740992<=b/\b<=9007199254740992) (i:y0<18446744073709551616) (h:af y0) (f:y1<18446744073709551616) (g:af y1):wAt [a,b] [y0,y1] 2=⟨0,a*uI K y0+b*uI K y1⟩:=by
 show ((⟨0,0⟩:A.St).merge (A.bn (fi a) y0)).merge (A.bn (fi b) y1)=_
 rw [gJ d c.1 c.2 i h,gJ d e.1 e.2 f g,mK,mK,Int.zero_add]
theorem xI {a b c d:Int} {y0 y1 f e K:Nat} (g:K=1074) (h: -9007199254740992<=a/\a<=9007199254740992) (j: -9007199254740992<=b/\b<=9007199254740992) (hc: -9007199254740992<=c/\c<=9007199254740992) (i: -9007199254740992<=d/\d<=9007199254740992) (o:y0<18446744073709551616) (l:af y0) (p:y1<18446744073709551616) (r:af y1) (k:f<18446744073709551616) (q:af f) (n:e<18446744073709551616) (m:af e):wAt [a,b,c,d] [y0,y1,f,e] 4=⟨0,a*uI K y0+b*uI K y1+c*uI K f+d*uI K e⟩:=by
 show ((((⟨0,0⟩:A.St).merge (A.bn (fi a) y0)).merge (A.bn (fi b) y1)).merge (A.bn (fi c) f)).merge (A.bn (fi d) e)=_
 rw [gJ g h.1 h.2 o l,gJ g j.1 j.2 p r,gJ g hc.1 hc.2 k q,gJ g i.1 i.2 n m,mK,mK,mK,mK,Int.zero_add]
theorem kL (N:Int) (d:Nat):aR ⟨0,N⟩ d=overG N d:=by
 unfold aR overG;rw [if_pos rfl,mI]
structure Inside (xs:List Int) (x:Int) (k D:Nat) (i:Int):Prop where
 lt:k+1<xs.length
 hD:xs.getD (k+1) 0 - xs.getD k 0=(D:Int)
 hi:x - xs.getD k 0=i
 lo:0<i
 hi':i<(D:Int)
theorem EM {xs:List Int} {x:Int} {k:Nat} (a:x<=xs.getD (xs.length - 1) 0) (b:FindR xs x k) (e:xs.getD k 0≠x):∃ D i,Inside xs x k D i:=by
 have f:=b.le;have d:k+1<xs.length:=Classical.byContradiction fun c=>by
  have g:=b.lt;rw [show xs.length - 1=k by omega] at a
  omega
 have h:=b.gt d;exact⟨(xs.getD (k+1) 0 - xs.getD k 0).toNat,_,d,by omega,rfl,by omega,by omega⟩
def linV (ys:List Nat) (k D:Nat) (i:Int):Nat:=aR (wAt [(D:Int) - i,i] [ys.getD k 0,ys.getD (k+1) 0] 2) D
theorem xJ (kind x k E:Int) (b a:Option Addr) (d f cx g c cy:Nat) (xs:List Int) (ys:List Nat) (w:World) (h:FindO kind xs ys x k E) (m:E≠0) (l:TSrc w b a d f g c xs ys) :
  Calls Tryz.prog 107 #[.agg #[.int .i64 kind,.slice b xs.length cx,.slice a ys.length cy],.int .i64 x] w fun e j=>e=.returned (.tuple #[.int .u64 0,.int .i64 E])/\Below w.heap.size w j:=
 OL kind x k E _ _ w m (fun n i=>cJ kind x k E b a d f cx g c cy xs ys n h (l.below i))
theorem lJ (kind x:Int) (d c:Option Addr) (g i cx l f cy n k:Nat) (xs:List Int) (ys:List Nat) (w:World) (h:OkT kind xs ys) (hn:xs.length=n) (q:FindO kind xs ys x (k:Int) 0) (r:k<n) (j:xs.getD k 0=x\/(xs.getD k 0≠x/\kind=1)) (a:TSrc w d c g i l f xs ys) :
  Calls Tryz.prog 107 #[.agg #[.int .i64 kind,.slice d n cx,.slice c n cy],.int .i64 x] w fun e o=>e=.returned (.tuple #[.int .u64 (ys.getD k 0:Nat),.int .i64 0])/\Below w.heap.size w o:=by
 have m:=h.len;have p:=h.hi;have H:lH w kind (.slice d n cx) (.slice c n cy) x (k:Int) 0:=fun s b=>by
  have:=cJ kind x k 0 d c g i cx l f cy xs ys s q (a.below b);rw [m,hn] at this
  exact this
 obtain rfl:=a.x.at_ (by omega)
 obtain rfl:=a.y.at_ (by omega)
 exact Mt kind x g i cx l f cy n k (xs.getD k 0) (ys.getD k 0) w (fun o b=>⟨(a.below b).x.cell k (by omega),(a.below b).y.cell k (by omega)⟩) r (by omega) j H
theorem xK (x:Int) (l j:Option Addr) (o p cx r m cy n k D:Nat) (i:Int) (xs:List Int) (ys:List Nat) (w:World) (h:OkT 2 xs ys) (hn:xs.length=n) (A:FindO 2 xs ys x (k:Int) 0) (c:Inside xs x k D i) (q:n<=cy) (d:cy<=9223372036854775807) (b:TSrc w l j o p r m xs ys) :
  Calls Tryz.prog 107 #[.agg #[.int .i64 2,.slice l n cx,.slice j n cy],.int .i64 x] w fun e t=>e=.returned (.tuple #[.int .u64 (linV ys k D i:Int),.int .i64 0])/\Below w.heap.size w t:=by
 have s:=h.len;have v:=h.hi;have B:=c.lt;have H:lH w 2 (.slice l n cx) (.slice j n cy) x (k:Int) 0:=fun E u=>by
  have:=cJ 2 x k 0 l j o p cx r m cy xs ys E A (b.below u);rw [s,hn] at this
  exact this
 obtain rfl:=b.x.at_ (by omega)
 obtain rfl:=b.y.at_ (by omega)
 have z:=aq (h.node k (by omega))
 have C:=aq (h.node (k+1) (by omega))
 exact OM x o p cx r m cy n k D (xs.getD k 0) (xs.getD (k+1) 0) i (ys.getD k 0) (ys.getD (k+1) 0) w (fun t g=>by
   have a:=b.below g.bl;exact⟨g.t0,g.t1,g.t2,a.x.cell k (by omega),a.x.cell (k+1) (by omega),a.y.cell k (by omega),a.y.cell (k+1) (by omega),a.y.lt (by omega)⟩)
  (by omega) (by omega) q d z.1 C.2.1 c.hD c.hi c.lo c.hi' (by have:=(b.f k (by omega)).2;omega) (by have:=(b.f (k+1) (by omega)).2;omega) H
def AR (ps:List Nat) (D:Nat) (i:Int):Nat:=aR (wAt [((D:Int) - i)*((D:Int) - i)*((D:Int) - i),3*((D:Int) - i)*((D:Int) - i)*i,3*((D:Int) - i)*i*i,i*i*i] ps 4) (D*D*D)
theorem OR {xs:List Int} {ys:List Nat} {k:Nat} (b:ys.getD k 0<18446744073709551616) (a:ys.getD (k+1) 0<18446744073709551616):∀ j<4,(ptL xs ys k).getD j 0<18446744073709551616:=fun j c=>by
 rcases (show j=0\/j=1\/j=2\/j=3 by omega) with rfl | rfl | rfl | rfl
 ·exact b
 ·exact AD b a
 ·exact OE a (AD b a)
 ·exact a
theorem xL (x:Int) (g d:Option Addr) (p q cx r o cy n k D:Nat) (i:Int) (xs:List Int) (ys:List Nat) (w:World) (h:OkT 3 xs ys) (hn:xs.length=n) (P:FindO 3 xs ys x (k:Int) 0) (l:Inside xs x k D i) (c:TSrc w g d p q r o xs ys) :
  Calls Tryz.prog 107 #[.agg #[.int .i64 3,.slice g n cx,.slice d n cy],.int .i64 x] w fun e m=>e=.returned (.tuple #[.int .u64 (AR (ptL xs ys k) D i:Int),.int .i64 0])/\Below w.heap.size w m:=by
 have C:=h.len;have G:=h.hi;have S:=l.lt;have H:lH w 3 (.slice g n cx) (.slice d n cy) x (k:Int) 0:=fun b s=>by
  have:=cJ 3 x k 0 g d p q cx r o cy xs ys b P (c.below s);rw [C,hn] at this
  exact this
 have Y:∀ b,Below w.heap.size w b->Calls Tryz.prog 147 #[.agg #[.int .i64 3,.slice g n cx,.slice d n cy],.int .i64 (k:Int)] b fun e m=>∃ v,e=.returned (.tuple #[v,.int .i64 0])/\m.ownsRow b.heap.size 41 1 v 4 ((ptL xs ys k).map uV)/\Below b.heap.size b m:=fun b s=>pO 3 g d p q cx r o cy n k xs ys b h hn (c.below s) (by omega)
 obtain rfl:=c.x.at_ (by omega)
 obtain rfl:=c.y.at_ (by omega)
 have I:=aq (h.node k (by omega))
 have X:=aq (h.node (k+1) (by omega))
 have W:=l.hD;have A:=l.lo;have u:=l.hi';have t:ys.getD k 0<18446744073709551616:=by have:=(c.f k (by omega)).2;omega
 have z:ys.getD (k+1) 0<18446744073709551616:=by have:=(c.f (k+1) (by omega)).2;omega
 obtain⟨Q,U,V,J,T,E,O,F,N,K,L,a⟩:=uZ (D:=(D:Int)) (i:=i) (e:=(D:Int) - i) (by omega) (by omega) (by omega) (by omega) (by omega) (by omega)
 have M:L=((D*D*D:Nat):Int):=by rw [<- a.hn2,<- a.hn1,Int.natCast_mul,Int.natCast_mul]
 rw [M] at a
 have B:1<=D*D*D:=Nat.mul_pos (Nat.mul_pos (by omega) (by omega)) (by omega)
 unfold AR;rw [a.hq1,a.hq2,a.hr1,a.hr2,a.hr3,a.hs2,a.hs3,a.ht1,a.ht2];exact ON x p q cx r o cy n k D (D*D*D) (xs.getD k 0) (xs.getD (k+1) 0) i ((D:Int) - i) Q U V J T E O F N K (ptL xs ys k) w (fun m R=>by
   have j:=c.below R.bl;exact⟨j.x.cell k (by omega),j.x.cell (k+1) (by omega)⟩)
  (by omega) (by omega) I.1 X.2.1 W l.hi rfl A u a B rfl (OR t z) H Y
structure NumW (y:Nat):Prop where
 lt:y<18446744073709551616
 nb:af y
theorem mL {y0 y1 D K:Nat} {i:Int} (c:K=1074) (b:NumW y0) (a:NumW y1) (hi:0<=i) (d:i<=(D:Int)) (e:(D:Int)<=109572):aR (wAt [(D:Int) - i,i] [y0,y1] 2) D=overG (eJ (D:Int) i (uI K y0) (uI K y1)) D:=by
 rw [vh c ⟨by omega,by omega⟩ ⟨by omega,by omega⟩ b.lt b.nb a.lt a.nb,kL]
 rfl
theorem te {c f g d D K:Nat} {i:Int} (m:K=1074) (k:NumW c) (l:NumW f) (h:NumW g) (j:NumW d) (hi:0<=i) (r:i<=(D:Int)) (H:(D:Int)<=109572):AR [c,f,g,d] D i=overG (eD (D:Int) i (uI K c) (uI K f) (uI K g) (uI K d)) (D*D*D):=by
 obtain⟨A,C,E,u,B,t,z,s,y,v,w,a⟩:=uZ (D:=(D:Int)) (i:=i) (e:=(D:Int) - i) (by omega) (by omega) (by omega) (by omega) (by omega) (by omega)
 unfold AR eD;rw [a.hq1,a.hq2,a.hr1,a.hr2,a.hr3,a.hs2,a.hs3,a.ht1,a.ht2];obtain⟨⟨_,_⟩,⟨F,o⟩,⟨_,_⟩,⟨_,_⟩,⟨G,n⟩,⟨_,_⟩,⟨I,p⟩,⟨_,_⟩,⟨x,q⟩,_,_⟩:=a.b;rw [xI m ⟨by omega,by omega⟩ ⟨by omega,by omega⟩ ⟨by omega,by omega⟩ ⟨by omega,by omega⟩ k.lt k.nb l.lt l.nb h.lt h.nb j.lt j.nb,kL]
theorem Od (D:Nat):((D*D*D:Nat):Int)=(D:Int)*(D:Int)*(D:Int):=by rw [Int.natCast_mul,Int.natCast_mul]
theorem xM {y0 y1 D K:Nat} {i:Int} (f:K=1074) (c:NumW y0) (b:NumW y1) (hi:0<=i) (d:i<=(D:Int)) (a:0<D) (h:ae (y0:Nat)<=ae (y1:Nat)) :
  ae (y0:Nat)<=gc (eJ (D:Int) i (uI K y0) (uI K y1)) D/\gc (eJ (D:Int) i (uI K y0) (uI K y1)) D<=ae (y1:Nat):=by
 have g:=nH K c.lt c.nb b.lt b.nb h;have e:=II (n:=(D:Int)) hi d g;exact⟨CW f c.lt c.nb a e.1,CX f b.lt b.nb a e.2⟩
theorem sd {y0 y1 D K:Nat} {i:Int} (f:K=1074) (c:NumW y0) (b:NumW y1) (hi:0<=i) (d:i<=(D:Int)) (a:0<D) (h:ae (y1:Nat)<=ae (y0:Nat)) :
  ae (y1:Nat)<=gc (eJ (D:Int) i (uI K y0) (uI K y1)) D/\gc (eJ (D:Int) i (uI K y0) (uI K y1)) D<=ae (y0:Nat):=by
 have g:=nH K b.lt b.nb c.lt c.nb h;have e:=OQ (n:=(D:Int)) hi d g;exact⟨CW f b.lt b.nb a e.1,CX f c.lt c.nb a e.2⟩
structure Up4 (p0 p1 p2 p3:Nat):Prop where
 n0:NumW p0
 n1:NumW p1
 n2:NumW p2
 n3:NumW p3
 r1:ae (p0:Nat)<=ae (p1:Nat)
 r2:ae (p1:Nat)<=ae (p2:Nat)
 r3:ae (p2:Nat)<=ae (p3:Nat)
theorem xN {c d g b D K:Nat} {i:Int} (k:K=1074) (h:Up4 c d g b) (hi:0<=i) (e:i<=(D:Int)) (a:0<D) :
  ae (c:Nat)<=gc (eD (D:Int) i (uI K c) (uI K d) (uI K g) (uI K b)) (D*D*D)/\gc (eD (D:Int) i (uI K c) (uI K d) (uI K g) (uI K b)) (D*D*D)<=ae (b:Nat):=by
 have m:=nH K h.n0.lt h.n0.nb h.n1.lt h.n1.nb h.r1;have l:=nH K h.n1.lt h.n1.nb h.n2.lt h.n2.nb h.r2;have o:=nH K h.n2.lt h.n2.nb h.n3.lt h.n3.nb h.r3;have f:=OO (n:=(D:Int)) hi e m l o;have j:0<D*D*D:=Nat.mul_pos (Nat.mul_pos a a) a;rw [<- Od] at f
 exact⟨CW k h.n0.lt h.n0.nb j f.1,CX k h.n3.lt h.n3.nb j f.2⟩
structure Down4 (p0 p1 p2 p3:Nat):Prop where
 n0:NumW p0
 n1:NumW p1
 n2:NumW p2
 n3:NumW p3
 r1:ae (p1:Nat)<=ae (p0:Nat)
 r2:ae (p2:Nat)<=ae (p1:Nat)
 r3:ae (p3:Nat)<=ae (p2:Nat)
theorem sf {c d g b D K:Nat} {i:Int} (k:K=1074) (h:Down4 c d g b) (hi:0<=i) (e:i<=(D:Int)) (a:0<D) :
  ae (b:Nat)<=gc (eD (D:Int) i (uI K c) (uI K d) (uI K g) (uI K b)) (D*D*D)/\gc (eD (D:Int) i (uI K c) (uI K d) (uI K g) (uI K b)) (D*D*D)<=ae (c:Nat):=by
 have m:=nH K h.n1.lt h.n1.nb h.n0.lt h.n0.nb h.r1;have l:=nH K h.n2.lt h.n2.nb h.n1.lt h.n1.nb h.r2;have o:=nH K h.n3.lt h.n3.nb h.n2.lt h.n2.nb h.r3;have f:=OP (n:=(D:Int)) hi e m l o;have j:0<D*D*D:=Nat.mul_pos (Nat.mul_pos a a) a;rw [<- Od] at f
 exact⟨CW k h.n3.lt h.n3.nb j f.1,CX k h.n0.lt h.n0.nb j f.2⟩
structure NN (x:Nat):Prop where
 lt:x<18446744073709551616
 le:x % 9223372036854775808<=9218868437227405312
theorem NN.cases {x:Nat} (h:NN x):af x\/x % 9223372036854775808=9218868437227405312:=by
 unfold af;have:=h.le;omega
theorem NN.nan {x:Nat} (h:NN x):ah (x:Nat)=false:=by
 unfold ah szI;rw [decide_eq_false_iff_not];have:=h.le;omega
theorem Qp {x:Nat} (a:x<18446744073709551616) (h:ah (x:Nat)=false):NN x:=by
 unfold ah szI at h;rw [decide_eq_false_iff_not] at h;exact⟨a,by omega⟩
theorem NumW.nn {x:Nat} (h:NumW x):NN x:=⟨h.lt,by have:=h.nb;unfold af at this;omega⟩
theorem pY {s:Bool} {r:Nat} (h:r<=9218868437227405312):NN (wrd s r)/\sB (wrd s r)=s:=by
 unfold wrd sB;cases s
 ·exact⟨⟨by simp;omega,by simp;omega⟩,by simp;omega⟩
 ·refine⟨⟨by simp;omega,by simp;omega⟩,?_⟩
  rw [if_pos rfl,show (9223372036854775808+r) / 9223372036854775808 % 2=1 by omega];rfl
theorem pZ {r:Nat} {k:Int} (h:RkW r k):NN r:=Qp h.2.1 h.2.2
theorem De {x y:Nat} (b:NumW x) (a:NumW y):NN (sSub x y):=by
 obtain⟨r,e,h⟩:=pW b.nb a.nb;unfold sSub;rw [e,ar];exact pZ h
theorem iB {x y:Nat} (c:NN x) (a:NumW y) (d:y % 9223372036854775808≠0):NN (sDiv x y):=by
 unfold sDiv;rcases c.cases with h | h
 ·obtain⟨r,e,b⟩:=pX h a.nb d;rw [e,ar];exact pZ b
 ·rw [CM h a.nb,ar];exact (pY (by omega)).1
theorem jO {x y:Nat} (c:NN x) (a:NumW y) (d:y % 9223372036854775808≠0):NN (sMul x y):=by
 unfold sMul;rcases c.cases with h | h
 ·obtain⟨r,e,b⟩:=ji h a.nb;rw [e,ar];exact pZ b
 ·rw [(fS h a.nb d).1,ar];exact (pY (by omega)).1
theorem oF {x y:Nat} (b:NumW x) (a:NN y):NN (sAdd x y):=by
 unfold sAdd;rcases a.cases with h | h
 ·obtain⟨r,e,c⟩:=fG b.nb h;rw [e,ar];exact pZ c
 ·rw [(lz h b.nb a.lt).2,ar];exact a
theorem tf {x y:Nat} (f:NN x) (g:NN y) (j:sB x=sB y):NN (sAdd x y):=by
 unfold sAdd;rcases f.cases with h | h<;>rcases g.cases with i | i
 ·obtain⟨r,e,k⟩:=fG h i;rw [e,ar];exact pZ k
 ·rw [(lz i h g.lt).2,ar];exact g
 ·rw [(lz h i f.lt).1,ar];exact f
 ·have e:x=y:=by
   have a:=f.lt;have b:=g.lt;unfold sB at j
   have c:(x / 9223372036854775808 % 2==1)=(y / 9223372036854775808 % 2==1):=j;have d:x / 9223372036854775808 % 2=y / 9223372036854775808 % 2:=by
    rcases Nat.mod_two_eq_zero_or_one (x / 9223372036854775808) with p | p<;>rcases Nat.mod_two_eq_zero_or_one (y / 9223372036854775808) with q | q<;>rw [p,q] at c<;>simp_all
   omega
  rw [pH h i f.lt g.lt,if_pos e,ar];exact f
theorem qe {c a:Nat} (hc:af c) (d:c % 9223372036854775808≠0) (b:sB c=false) (f:NN a) (e:a % 9223372036854775808≠0):NN (sDiv c a)/\sB (sDiv c a)=sB a:=by
 unfold sDiv;rcases f.cases with h | h
 ·have g:(mg (a % 9223372036854775808)).log2<53:=(Nat.log2_lt (fy e)).2 (by have:=ns (a % 9223372036854775808);omega)
  rw [jL hc h d e rfl rfl rfl rfl (k:=300) (by omega),ar,b,Bool.false_xor]
  exact pY (pT _ _)
 ·rw [pK hc h,ar,b,Bool.false_xor];exact pY (by omega)
theorem IO {s:Nat} (b:NN s):NN (sDiv 4611686018427387904 s):=by
 by_cases a:s % 9223372036854775808=0
 ·unfold sDiv;rw [nC (by unfold af;decide) (by decide) a,ar]
  exact (pY (by omega)).1
 ·exact (qe (by unfold af;decide) (by decide) (by decide) b a).1
theorem iC {a:Nat} (f:a<18446744073709551616) (h:ltB 0 (a:Nat)=true):a % 9223372036854775808≠0/\sB a=false:=by
 unfold ltB at h
 simp only [Bool.and_eq_true,Bool.not_eq_true',decide_eq_true_eq] at h
 obtain⟨⟨_,d⟩,b⟩:=h;have e:ae 0=0:=by decide
 rw [e] at b
 unfold ae at b
 rw [d,if_neg (by decide)] at b
 unfold sgB szI at b
 by_cases c:(9223372036854775808:Int)<=(a:Int)
 ·simp [c] at b;omega
 ·simp [c] at b
  refine⟨by omega,?_⟩
  unfold sB;rw [show a / 9223372036854775808 % 2=0 by omega];rfl
theorem oG {a:Nat} (f:a<18446744073709551616) (h:ltB (a:Nat) 0=true):a % 9223372036854775808≠0/\sB a=true:=by
 unfold ltB at h
 simp only [Bool.and_eq_true,Bool.not_eq_true',decide_eq_true_eq] at h
 obtain⟨⟨d,_⟩,b⟩:=h;have e:ae 0=0:=by decide
 rw [e] at b
 unfold ae at b
 rw [d,if_neg (by decide)] at b
 unfold sgB szI at b
 by_cases c:(9223372036854775808:Int)<=(a:Int)
 ·simp [c] at b
  refine⟨by omega,?_⟩
  unfold sB;rw [show a / 9223372036854775808 % 2=1 by omega];rfl
 ·simp [c] at b;omega
theorem OS {a b:Nat} (k:NN a) (m:NN b):NN (slB a b):=by
 have c:af 4607182418800017408:=by unfold af;decide
 have d:a % 9223372036854775808≠0->b % 9223372036854775808≠0->sB a=sB b->NN (sDiv 4611686018427387904 (sAdd (sDiv 4607182418800017408 a) (sDiv 4607182418800017408 b))):=fun e f r=>by
  obtain⟨t,p⟩:=qe c (by decide) (by decide) k e
  obtain⟨q,n⟩:=qe c (by decide) (by decide) m f
  exact IO (tf t q (by rw [p,n,r]))
 have h:=Ie a b;generalize slB a b=z at *
 cases h with
 | up e f=>
  obtain⟨i,g⟩:=iC k.lt e;obtain⟨j,l⟩:=iC m.lt f;exact d i j (by rw [g,l])
 | down1 e o s=>
  obtain⟨i,g⟩:=oG k.lt o;obtain⟨j,l⟩:=oG m.lt s;exact d i j (by rw [g,l])
 | flat1=>exact⟨by decide,by decide⟩
 | flat2=>exact⟨by decide,by decide⟩
 | flat3=>exact⟨by decide,by decide⟩
theorem vj {x y:Nat} (c:NumW x) (a:NN y):NN (sSub x y):=by
 have e:sSub x y=sAdd x (flipN y):=by unfold sSub sAdd;rw [xf a.lt a.nan]
 obtain⟨b,d,_⟩:=cz a.lt;rw [e];exact oF c ⟨b,by rw [d];exact a.le⟩
theorem iD {m:Int} (i:0<m) (h:m<=9007199254740992):NumW (fi m)/\fi m % 9223372036854775808≠0:=by
 obtain⟨a,b,c,d⟩:=nA (m:=m) rfl (by omega) h
 refine⟨⟨d,b⟩,fun e=>?_⟩
 have g:vI (fi m)=0:=by unfold vI;rw [e,bp];split<;>rfl
 rw [g] at a
 have f:(0:Int)<((2^1074:Nat):Int):=by have:=Nat.two_pow_pos 1074;omega
 have:=Int.mul_pos i f;omega
theorem aN {kind:Int} {xs:List Int} {ys:List Nat} (h:OkT kind xs ys) (b:∀ i<ys.length,U64 (ys.getD i 0:Nat)) {i:Nat} (hi:i<xs.length):NumW (ys.getD i 0):=by
 have a:=(aq (h.node i hi)).2.2.2.1;have c:=b i (by rw [h.len];exact hi)
 unfold aM szI at a
 rw [decide_eq_true_eq] at a
 exact⟨by have:=c.2;omega,by unfold af;omega⟩
theorem fH {kind:Int} {xs:List Int} {ys:List Nat} (h:OkT kind xs ys) (d:∀ i<ys.length,U64 (ys.getD i 0:Nat)) {k:Nat} (c:k+1<xs.length):NN (steepB xs ys k):=by
 have e:=h.step c;have g:=aq (h.node k (by omega))
 have f:=aq (h.node (k+1) c);obtain⟨a,b⟩:=iD (m:=xs.getD (k+1) 0 - xs.getD k 0) (by omega) (by omega)
 exact iB (De (aN h d c) (aN h d (by omega))) a b
theorem xO {kind:Int} {xs:List Int} {ys:List Nat} (h:OkT kind xs ys) (b:∀ i<ys.length,U64 (ys.getD i 0:Nat)):∀ k,k+1<xs.length->∀ d ∈ eG xs ys k,NN d
 | 0,hk,d,a=>by
  have:d=steepB xs ys 0:=by simpa [eG] using a
  rw [this];exact fH h b hk
 | k+1,hk,d,a=>by
  rw [iv,List.mem_append] at a
  rcases a with a | a
  ·exact xO h b k (by omega) d a
  ·have:d=slB (steepB xs ys k) (steepB xs ys (k+1)):=by simpa using a
   rw [this];exact OS (fH h b (by omega)) (fH h b hk)
theorem gK {kind:Int} {xs:List Int} {ys:List Nat} (h:OkT kind xs ys) (b:∀ i<ys.length,U64 (ys.getD i 0:Nat)) (i:Nat):NN ((bG xs ys xs.length).getD i 0):=by
 have z:NN 0:=⟨by decide,by decide⟩
 by_cases hi:i<(bG xs ys xs.length).length
 ·have e:(bG xs ys xs.length).getD i 0=(bG xs ys xs.length)[i]:=by simp [List.getD,List.getElem?_eq_getElem hi]
  rw [e];have a:=List.getElem_mem hi;generalize (bG xs ys xs.length)[i]=d at *
  unfold bG at a
  have c:=h.lo
  split at a
  ·have:d=0:=by simpa using a
   rw [this];exact z
  ·rw [List.mem_append] at a
   rcases a with a | a
   ·exact xO h b _ (by omega) d a
   ·have:d=steepB xs ys (xs.length - 2):=by simpa using a
    rw [this];exact fH h b (by omega)
 ·have e:(bG xs ys xs.length).getD i 0=0:=by simp [List.getD,List.getElem?_eq_none (show (bG xs ys xs.length).length<=i by omega)]
  rw [e];exact z
theorem Df {x a b:Nat} (e:x<18446744073709551616) (hn:ah (x:Nat)=false) (c:NumW a) (d:NumW b) (f:ae (a:Nat)<=ae (x:Nat)) (h:ae (x:Nat)<=ae (b:Nat)):NumW x:=by
 have i: -9218868437227405312<ae (a:Nat):=by
  rcases vI_rank c.lt c.nb with⟨p,_,q⟩| ⟨p,_,q⟩
  ·omega
  ·have:=c.nb;unfold af at this;omega
 have g:ae (b:Nat)<9218868437227405312:=by
  rcases vI_rank d.lt d.nb with⟨p,_,q⟩| ⟨p,_,q⟩
  ·have:=d.nb;unfold af at this;omega
  ·omega
 exact⟨e,xH (k:=ae (x:Nat)) ⟨rfl,e,hn⟩ (by omega) (by omega)⟩
theorem mM {v a b:Nat} (e:NN v) (c:NumW a) (d:NumW b) (h:ae (a:Nat)<=ae (b:Nat)):NumW (heldN v a b)/\ae (a:Nat)<=ae (heldN v a b:Nat)/\ae (heldN v a b:Nat)<=ae (b:Nat):=by
 obtain⟨x,y,z⟩:=Mn e.nan c.nn.nan d.nn.nan h;rw [<- fC e.lt c.lt d.lt] at x y z
 exact⟨Df (jg e.lt c.lt d.lt) x c d y z,y,z⟩
theorem mN {v a b:Nat} (e:NN v) (c:NumW a) (d:NumW b) (h:ae (b:Nat)<=ae (a:Nat)):NumW (heldN v a b)/\ae (b:Nat)<=ae (heldN v a b:Nat)/\ae (heldN v a b:Nat)<=ae (a:Nat):=by
 obtain⟨x,y,z⟩:=Eh e.nan c.nn.nan d.nn.nan h;rw [<- fC e.lt c.lt d.lt] at x y z
 exact⟨Df (jg e.lt c.lt d.lt) x d c y z,y,z⟩
theorem OT {h d e a b:Nat} (l:NumW h) (i:h % 9223372036854775808≠0) (q:NN d) (u:NN e) (g:NumW a) (f:NumW b) (s:ae (a:Nat)<=ae (b:Nat)):Up4 a (ptP h d a b) (ptQ h e b (ptP h d a b)) b:=by
 obtain⟨k,c⟩:=iD (m:=3) (by decide) (by decide)
 obtain⟨j,p,t⟩:=mM (v:=sAdd a (sDiv (sMul d h) (fi 3))) (oF g (iB (jO q l i) k c)) g f s;obtain⟨n,r,o⟩:=mM (v:=sSub b (sDiv (sMul e h) (fi 3))) (vj f (iB (jO u l i) k c)) j f t;exact⟨g,j,n,f,p,r,o⟩
theorem IP {h d e a b:Nat} (l:NumW h) (i:h % 9223372036854775808≠0) (q:NN d) (u:NN e) (g:NumW a) (f:NumW b) (s:ae (b:Nat)<=ae (a:Nat)):Down4 a (ptP h d a b) (ptQ h e b (ptP h d a b)) b:=by
 obtain⟨k,c⟩:=iD (m:=3) (by decide) (by decide)
 obtain⟨j,p,t⟩:=mN (v:=sAdd a (sDiv (sMul d h) (fi 3))) (oF g (iB (jO q l i) k c)) g f s;obtain⟨n,r,o⟩:=mN (v:=sSub b (sDiv (sMul e h) (fi 3))) (vj f (iB (jO u l i) k c)) j f p;exact⟨g,j,n,f,t,o,r⟩
theorem olt {x c:Nat} (h:x<18446744073709551616) (hc:c<18446744073709551616):(FloatKind.f64.format.order x c==some .lt)=ltB (x:Nat) (c:Nat):=by
 unfold ltB;cases a:ah (x:Int) with
 | true=>rw [eY a];rfl
 | false=>
  cases b:ah (c:Int) with
  | true=>rw [iP b];rfl
  | false=>rw [jB (aU h) (aU hc) a b];rfl
theorem ogt {x c:Nat} (h:x<18446744073709551616) (hc:c<18446744073709551616):(FloatKind.f64.format.order x c==some .gt)=ltB (c:Nat) (x:Nat):=by
 unfold ltB;cases a:ah (x:Int) with
 | true=>rw [eY a];simp
 | false=>
  cases b:ah (c:Int) with
  | true=>rw [iP b];rfl
  | false=>rw [lL (aU h) (aU hc) a b];rfl
theorem mU (v a b:Nat) (w:World) (l:v<18446744073709551616) (f:NumW a) (g:NumW b) :
  Calls Tryz.prog 224 #[.float .f64 v,.float .f64 a,.float .f64 b] w fun e s=>e=.returned (.float .f64 (heldN v a b))/\s=w:=by
 have j:=aC f.nn.nan g.nn.nan;have d:=aC g.nn.nan f.nn.nan;have n:=olt g.lt f.lt;have q:=eI (aU f.lt) (aU g.lt) f.nn.nan g.nn.nan;have r:=olt l f.lt;have m:=olt l g.lt;have p:=ogt l f.lt;have o:=ogt l g.lt;obtain⟨R,c⟩:∃ R,heldN v a b=R:=⟨_,rfl⟩;rw [c];unfold heldN dC at c
 rcases Int.lt_trichotomy (ae (a:Nat)) (ae (b:Nat)) with h | h | h
 ·rw [decide_eq_true h] at j
  rw [decide_eq_false (by omega)] at d q
  rw [d] at n
  rw [j,d] at c
  clear j d m p f g l h;cases k:ltB (v:Nat) (a:Nat)<;>cases i:ltB (b:Nat) (v:Nat)
  all_goals
   rw [k] at r c
   rw [i] at o c
   clear k i;simp at c
   subst c
   go_enter Tryz.func224,Tryz.ntmps224
   go_wp2
   go_ret
   exact⟨rfl,rfl⟩
 ·rw [decide_eq_false (by omega)] at j d
  rw [decide_eq_true h] at q
  rw [d] at n
  rw [j,d] at c
  clear j d m o f g l h;cases k:ltB (v:Nat) (a:Nat)<;>cases i:ltB (a:Nat) (v:Nat)
  all_goals
   rw [k] at r c
   rw [i] at p c
   clear k i;simp at c
   subst c
   go_enter Tryz.func224,Tryz.ntmps224
   go_wp2
   go_ret
   exact⟨rfl,rfl⟩
 ·rw [decide_eq_true h] at d
  rw [decide_eq_false (by omega)] at j q
  rw [d] at n
  rw [d] at c
  clear j d r o f g l h;cases k:ltB (v:Nat) (b:Nat)<;>cases i:ltB (a:Nat) (v:Nat)
  all_goals
   rw [k] at m c
   rw [i] at p c
   clear k i;simp at c
   subst c
   go_enter Tryz.func224,Tryz.ntmps224
   go_wp2
   go_ret
   exact⟨rfl,rfl⟩
def prv (xs:List Int):Nat->Int
 | 0=>-1
 | k+1=>xs.getD k 0
def plB (xs:List Int) (i:Nat):Bool:=decide (xs.getD i 0<=prv xs i)||decide (109572<xs.getD i 0)
def vlB (kind:Int) (ys:List Nat) (i:Nat):Bool:=!aM (ys.getD i 0:Nat)||(decide (kind=4)&&!ltB 0 (ys.getD i 0:Nat))
theorem Bj (p:Option Addr) (n c:Nat) (w:World) (h:n<1\/256<n) :
  Calls Tryz.prog 199 #[.slice p n c] w fun e a=>e=.returned (.bool false)/\a=w:=by
 rcases h with h | h
 ·have b:decide ((n:Int)<1)=true:=decide_eq_true (by omega)
  clear h
  go_enter Tryz.func199,Tryz.ntmps199
  go_wp2
  go_ret
  exact⟨rfl,rfl⟩
 ·have b:decide ((n:Int)<1)=false:=decide_eq_false (by omega)
  have d:decide ((256:Int)<n)=true:=decide_eq_true (by omega)
  clear h
  go_enter Tryz.func199,Tryz.ntmps199
  go_wp2
  go_ret
  exact⟨rfl,rfl⟩
theorem yg (p:Option Addr) (b off c n K:Nat) (xs:List Int) (w:World) (r:VSrc w p b off n (xV xs)) (hn:1<=n) (x:n<=256) (G:K<=n) (a:∀ i<K,plB xs i=false) (d:K<n->plB xs K=true) :
  Calls Tryz.prog 199 #[.slice p n c] w fun e C=>e=.returned (.bool (decide (n<=K)))/\C=w:=by
 obtain⟨g,h⟩:∃ g,decide (n<=K)=g:=⟨_,rfl⟩;rw [h];have z:Hid (K<n->g=false):=fun D=>by rw [<- h];exact decide_eq_false (by omega)
 have A:Hid (K=n->g=true):=fun D=>by rw [<- h];exact decide_eq_true (by omega)
 clear h;have s:=hideS r;have v:=hideS a;have E:=hideS d;obtain rfl:=r.at_ (by omega)
 have B:decide ((n:Int)<1)=false:=decide_eq_false (by omega)
 have u:decide ((256:Int)<n)=false:=decide_eq_false (by omega)
 clear r a d
 go_enter Tryz.func199,Tryz.ntmps199
 go_wp2_with fail
 clear B u
 go_loop [3,5,16] (fun l _ i=>∃ k:Nat,k<=K/\i=.int .i64 k/\l=.int .i64 (prv xs k)) (fun _ _ i=>n - (intOf i).toNat)
 case atStart=>exact⟨0,Nat.zero_le _,rfl,rfl⟩
 case round=>
  obtain⟨k,H,rfl,rfl⟩:=hrel
  by_cases o:k<K
  ·have m:k<n:=by omega
   have c1:w.cell? ⟨b,off+k,none⟩=some (.int .i64 (xs.getD k 0)):=s.out.cell k m;have f:=v.out k o;unfold plB at f
   rw [Bool.or_eq_false_iff] at f
   obtain⟨t,I⟩:=f;have F:=hideS (show prv xs (k+1)=xs.getD k 0 from rfl)
   generalize prv xs k=l at *
   generalize xs.getD k 0=y at *
   go_wp2_with fail
   go_round
   case rel=>exact⟨k+1,by omega,by simp,by rw [F.out]⟩
   case measure=>simp [intOf];omega
  ·obtain rfl:k=K:=by omega
   by_cases q:k<n
   ·have c1:w.cell? ⟨b,off+k,none⟩=some (.int .i64 (xs.getD k 0)):=s.out.cell k q;have f:=E.out q;unfold plB at f
    have j:=hideS (z.out q);generalize prv xs k=l at *
    generalize xs.getD k 0=y at *
    cases t:decide (y<=l)
    ·rw [t,Bool.false_or] at f
     go_wp2_with fail
     go_ret
     exact⟨by rw [j.out]<;>rfl,rfl⟩
    ·clear f
     go_wp2_with fail
     go_ret
     exact⟨by rw [j.out]<;>rfl,rfl⟩
   ·obtain rfl:k=n:=by omega
    have j:=hideS (A.out rfl)
    go_wp2_with fail
    go_ret
    exact⟨by rw [j.out]<;>rfl,rfl⟩
theorem yj (kind:Int) (p:Option Addr) (b off c n K:Nat) (ys:List Nat) (w:World) (D:VSrc w p b off n (flV ys)) (E:∀ i<n,ys.getD i 0<18446744073709551616) (L:n<=256) (W:K<=n) (l:∀ i<K,vlB kind ys i=false) (u:K<n->vlB kind ys K=true) :
  Calls Tryz.prog 200 #[.int .i64 kind,.slice p n c] w fun e f=>e=.returned (.bool (decide (n<=K)))/\f=w:=by
 obtain⟨g,v⟩:∃ g,decide (n<=K)=g:=⟨_,rfl⟩;rw [v];have x:Hid (K<n->g=false):=fun T=>by rw [<- v];exact decide_eq_false (by omega)
 have M:Hid (K=n->g=true):=fun T=>by rw [<- v];exact decide_eq_true (by omega)
 clear v;have F:=hideS D;have J:=hideS l;have V:=hideS u;have O:=hideS E;clear D l u E
 go_enter Tryz.func200,Tryz.ntmps200
 go_wp2_with fail
 go_loop [6,9] (fun _ i=>∃ k:Nat,k<=K/\i=.int .i64 k) (fun _ i=>n - (intOf i).toNat)
 case atStart=>exact⟨0,Nat.zero_le _,rfl⟩
 case round=>
  obtain⟨k,X,rfl⟩:=hrel
  by_cases B:k<n
  ·have c1:w.cell? ⟨b,off+k,none⟩=some (.float .f64 (ys.getD k 0)):=F.out.cell k B;obtain rfl:=F.out.at_ (by omega)
   have s:=O.out k B;have m:=hideS fun w=>be (ys.getD k 0) w (aU s)
   have a:vlB kind ys k=decide (K<=k):=by
    by_cases z:k<K
    ·rw [J.out k z,decide_eq_false (by omega)]
    ·obtain rfl:k=K:=by omega
     rw [V.out B,decide_eq_true (Nat.le_refl k)]
   have A:=olt s (show (0:Nat)<18446744073709551616 by decide)
   unfold vlB at a
   cases h:ah (ys.getD k 0:Nat) with
   | true=>
    rw [oH h,Bool.not_false,Bool.true_or] at a
    have d:=of_decide_eq_true a.symm;have o:=hideS (x.out (by omega))
    rw [h] at m
    clear a A h d s;generalize ys.getD k 0=y at *
    go_wp2_with (first | (go_at_call 70;refine (m.out _).mono ?_;rintro e f ⟨rfl,rfl⟩))
    go_ret
    exact⟨by rw [o.out]<;>rfl,rfl⟩
   | false=>
    have q:=hideS fun w=>iF (ys.getD k 0) _ w (aU s) (qs h)
    have H:=eI (aU s) (aU (show (0:Nat)<18446744073709551616 by decide)) h (by decide)
    have I:ltB 0 (ys.getD k 0:Nat)=!((FloatKind.f64.format.order (ys.getD k 0) 0==some .lt)||(FloatKind.f64.format.order (ys.getD k 0) 0==some .eq)):=by
     rw [A,H,aC (by decide) h]
     have G:ae ((0:Nat):Int)=0:=by decide
     have C:ae (0:Int)=0:=by decide
     have e:ltB (ys.getD k 0:Nat) ((0:Nat):Int)=decide (ae (ys.getD k 0:Nat)<0):=by rw [aC h (by decide),G]
     rw [e,G,C];generalize ae (ys.getD k 0:Nat)=r
     by_cases Q:r<0<;>by_cases U:r=0<;>by_cases S:0<r<;>simp [Q,U,S]<;>omega
    rw [I] at a
    rw [h] at m
    clear A H I s h;generalize ys.getD k 0=y at *
    cases j:aM (y:Nat) with
    | false=>
     rw [j] at q a
     rw [Bool.not_false,Bool.true_or] at a
     have d:=of_decide_eq_true a.symm;have o:=hideS (x.out (by omega))
     clear a d j
     go_wp2_with (first | (go_at_call 70;refine (m.out _).mono ?_;rintro e f ⟨rfl,rfl⟩) | (go_at_call 71;refine (q.out _).mono ?_;rintro e f ⟨rfl,rfl⟩))
     go_ret
     exact⟨by rw [o.out]<;>rfl,rfl⟩
    | true=>
     rw [j] at q a
     rw [Bool.not_true,Bool.false_or,Bool.not_not] at a
     clear j;cases t:decide (kind=4) with
     | false=>
      rw [t,Bool.false_and] at a
      have d:=of_decide_eq_false a.symm;have N:(kind==4)=false:=beq_eq_false_iff_ne.2 (of_decide_eq_false t);clear a t
      go_wp2_with (first | (go_at_call 70;refine (m.out _).mono ?_;rintro e f ⟨rfl,rfl⟩) | (go_at_call 71;refine (q.out _).mono ?_;rintro e f ⟨rfl,rfl⟩))
      go_round
      case rel=>exact⟨k+1,by omega,by simp⟩
      case measure=>simp [intOf];omega
     | true=>
      rw [t,Bool.true_and] at a
      obtain rfl:=of_decide_eq_true t;clear t;cases R:(FloatKind.f64.format.order y 0==some .lt)<;>cases P:(FloatKind.f64.format.order y 0==some .eq)
      all_goals
       rw [R,P] at a
      ·have d:=of_decide_eq_false a.symm;clear a
       go_wp2_with (first | (go_at_call 70;refine (m.out _).mono ?_;rintro e f ⟨rfl,rfl⟩) | (go_at_call 71;refine (q.out _).mono ?_;rintro e f ⟨rfl,rfl⟩))
       go_round
       case rel=>exact⟨k+1,by omega,by simp⟩
       case measure=>simp [intOf];omega
      all_goals
       have d:=of_decide_eq_true a.symm;have o:=hideS (x.out (by omega))
       clear a d
       go_wp2_with (first | (go_at_call 70;refine (m.out _).mono ?_;rintro e f ⟨rfl,rfl⟩) | (go_at_call 71;refine (q.out _).mono ?_;rintro e f ⟨rfl,rfl⟩))
       go_ret
       exact⟨by rw [o.out]<;>rfl,rfl⟩
  ·obtain rfl:k=n:=by omega
   obtain rfl:K=k:=by omega
   have o:=hideS (M.out rfl)
   go_wp2_with fail
   go_ret
   exact⟨by rw [o.out]<;>rfl,rfl⟩
theorem qC (k:Int) (w:World) (h:k<1\/4<k) :
  Calls Tryz.prog 198 #[.int .i64 k] w fun e a=>e=.returned .nilFunc/\a=w:=by
 have b:(k==1)=false:=beq_eq_false_iff_ne.2 (by omega)
 have f:(k==2)=false:=beq_eq_false_iff_ne.2 (by omega)
 have c:(k==3)=false:=beq_eq_false_iff_ne.2 (by omega)
 have d:(k==4)=false:=beq_eq_false_iff_ne.2 (by omega)
 clear h
 go_enter Tryz.func198,Tryz.ntmps198
 go_wp2_with fail
 go_ret
 exact⟨rfl,rfl⟩
def iR (kind:Int):Nat:=if kind=1 then 212 else if kind=2 then 213 else if kind=3 then 214 else 215
theorem qD (k:Int) (w:World) (b:1<=k) (c:k<=4) :
  Calls Tryz.prog 198 #[.int .i64 k] w fun e a=>e=.returned (.func (.func (iR k)) #[] #[])/\a=w:=by
 rcases (show k=1\/k=2\/k=3\/k=4 by omega) with rfl | rfl | rfl | rfl
 all_goals
  clear b c
  go_enter Tryz.func198,Tryz.ntmps198
  go_wp2_with fail
  go_ret
  exact⟨rfl,rfl⟩
end Go.Proofs.YtfdddijdjpijbaaGreat
