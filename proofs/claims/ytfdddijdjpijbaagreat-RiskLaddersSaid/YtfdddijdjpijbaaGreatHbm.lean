/-  -/
import Derived.Test.YtfdddijdjpijbaaGreatHbl
import Derived.Test.YtfdddijdjpijbaaGreatHba
set_option maxHeartbeats 6400000
set_option maxRecDepth 20000
namespace Go.Proofs.YtfdddijdjpijbaaGreat
open Go.RowKit
def LRd (w:World) (B:Nat) (c:Value) (b a k:Nat) (y0 y1:Nat):Prop:=
 w.cell? ⟨B,2,none⟩=some c/\w.cell? ⟨b,a+k,none⟩=some (.int .u64 (y0:Int))/\w.cell? ⟨b,a+(k+1),none⟩=some (.int .u64 (y1:Int))
theorem LRd.below {w d:World} {B s:Nat} {f:Value} {a b k:Nat} {y0 y1:Nat} (h:LRd w B f a b k y0 y1) (c:Below s w d) (g:B<s) (e:a<s):LRd d B f a b k y0 y1:=
 ⟨(c.cell (p:=⟨B,2,none⟩) g).trans h.1,(c.cell (p:=⟨a,b+k,none⟩) e).trans h.2.1,(c.cell (p:=⟨a,b+(k+1),none⟩) e).trans h.2.2⟩
theorem LRd.alloc {w:World} {B:Nat} {b:Value} {a c k:Nat} {y0 y1:Nat} (h:LRd w B b a c k y0 y1) (d:B<w.heap.size) (e:a<w.heap.size) (o:Obj):LRd (w.alloc o) B b a c k y0 y1:=
 h.below ((Below.refl w.heap.size w).alloc (Nat.le_refl _) o) d e
abbrev oW (a b:Int):Obj:=.cells #[.int .i64 a,.int .i64 b] 3
abbrev oL (a b:Nat):Obj:=.cells #[.int .u64 (a:Int),.int .u64 (b:Int)] 41
theorem lS (w:World) (a b:Nat):VSrc (w.alloc (oL a b)) (some ⟨w.heap.size,0,none⟩) w.heap.size 0 2 (yV [a,b]):=
 ⟨fun _=>rfl,fun _=>by simp,fun j c=>by
  rcases (show j=0\/j=1 by omega) with rfl | rfl
  ·simp [yV]
  ·simp [yV]⟩
theorem VSrc.alloc {w:World} {p:Option Addr} {b off n:Nat} {f:Nat->Value} (h:VSrc w p b off n f) (o:Obj):VSrc (w.alloc o) p b off n f:=h.below ((Below.refl _ w).alloc (Nat.le_refl _) o)
theorem VSrc.drew {w:World} {p:Option Addr} {b off n:Nat} {f:Nat->Value} (h:VSrc w p b off n f):VSrc w.drew p b off n f:=⟨h.at_,h.lt,h.cell⟩
theorem Pk (x:Int) (N W cx g h cy n k D:Nat) (E x1 i:Int) (y0 y1 u t ev:Nat) (w:World)
  (hR:∀ y,TBox w 4 (.slice (some ⟨N,W,none⟩) n cx) (.slice (some ⟨g,h,none⟩) n cy) y->ARd y w.heap.size 4 (.slice (some ⟨N,W,none⟩) n cx) (.slice (some ⟨g,h,none⟩) n cy) N W g h k E x1 y0 y1)
  (hk:k+1<n) (hn:n<=256) (h0:0<=E) (h1:x1<=109572) (hD:x1 - E=(D:Int)) (hi:x - E=i) (ci:0<i) (cm:i<(D:Int)) (bs:y0<18446744073709551616) (ad:y1<18446744073709551616) (bc:u<18446744073709551616) (ak:t<18446744073709551616) (ai:ev<18446744073709551616)
  (bo:Hid (∀ q,Calls Tryz.prog 148 #[.int .u64 (y0:Int)] q fun e y=>e=.returned (.int .u64 (u:Int))/\Below q.heap.size q y))
  (L:Hid (∀ q,Calls Tryz.prog 148 #[.int .u64 (y1:Int)] q fun e y=>e=.returned (.int .u64 (t:Int))/\Below q.heap.size q y))
  (cd:Hid (∀ q,Calls Tryz.prog 64 #[.int .u64 (aR (wAt [(D:Int) - i,i] [u,t] 2) D:Int)] q fun e y=>e=.returned (.int .u64 (ev:Int))/\Below q.heap.size q y))
  (H:Hid (lH w 4 (.slice (some ⟨N,W,none⟩) n cx) (.slice (some ⟨g,h,none⟩) n cy) x (k:Int) 0)) :
  Calls Tryz.prog 107 #[.agg #[.int .i64 4,.slice (some ⟨N,W,none⟩) n cx,.slice (some ⟨g,h,none⟩) n cy],.int .i64 x] w fun e y=>e=.returned (.tuple #[.int .u64 (heldN ev y0 y1:Int),.int .i64 0])/\Below w.heap.size w y:=by
 have HB:=hideS (bQ w 4 (.slice (some ⟨N,W,none⟩) n cx) (.slice (some ⟨g,h,none⟩) n cy));unfold lH at H
 have HR:=hideS hR;have cc:=hideS fun q=>mF ev y0 y1 q ai bs ad
 have B:Hid (∀ q G J,VSrc q (some ⟨G,0,none⟩) G 0 2 (xV [(D:Int) - i,i])->VSrc q (some ⟨J,0,none⟩) J 0 2 (yV [u,t])->Calls Tryz.prog 146 #[.slice (some ⟨G,0,none⟩) 2 2,.slice (some ⟨J,0,none⟩) 2 2,.int .i64 (D:Int)] q fun e y=>e=.returned (.int .u64 (aR (wAt [(D:Int) - i,i] [u,t] 2) D:Int))/\Below q.heap.size q y):=fun q G J s1 s2=>
  jh G 0 2 J 0 2 2 D [(D:Int) - i,i] [u,t] q s1 s2 (by omega) (by omega) (fun j hj=>by
   rcases (show j=0\/j=1 by omega) with rfl | rfl
   ·show -9007199254740992<=(D:Int) - i/\(D:Int) - i<=_;omega
   ·show -9007199254740992<=i/\i<=_;omega) (fun j hj=>by
   rcases (show j=0\/j=1 by omega) with rfl | rfl
   ·exact bc
   ·exact ak) (by omega) (by omega)
 generalize aR (wAt [(D:Int) - i,i] [u,t] 2) D=R at *
 generalize heldN ev y0 y1=V at *
 have f1:IntKind.i64.wrap ((k:Int)+1)=(k:Int)+1:=by rw [IntKind.wrap_i64];omega
 have f2:IntKind.i64.wrap (x1 - E)=x1 - E:=by rw [IntKind.wrap_i64];omega
 have f3:IntKind.i64.wrap (x - E)=x - E:=by rw [IntKind.wrap_i64];omega
 have G:(0:Int)<=(k:Int)+1:=by omega
 have J:(k:Int)+1<(n:Int):=by omega
 have g3:(0:Int)<=(k:Int):=by omega
 have g4:(k:Int)<(n:Int):=by omega
 have hx:(E==x)=false:=beq_false_of_ne (by omega)
 have cf:(D:Int)<=109572:=by omega
 clear hR bs ad bc ak ai
 go_enter Tryz.func107,Tryz.ntmps107
 go_wp2_with fail
 refine (H.out _ HB.out.bl).mono ?_
 rintro e w1 ⟨rfl,bh⟩;have P:=hideS (HB.out.step bh);clear bh;have hA:=HR.out w1 P.out;obtain⟨t0,t1,t2,a0,a1,b0,b1,ly⟩:=hA
 go_wp2_with fail
 go_quiet (fail)
 obtain⟨f,S⟩:∃ f,w1.drewN nq=f:=⟨_,rfl⟩;rw [S];have U:Hid (TBox w 4 (.slice (some ⟨N,W,none⟩) n cx) (.slice (some ⟨g,h,none⟩) n cy) f):=by show TBox _ _ _ _ _;rw [<- S];exact P.out.drewN nq
 clear S t0 t1 t2 a0 a1 b0 b1 ly P;obtain⟨t0,t1,t2,a0,a1,b0,b1,ly⟩:=HR.out f U.out;have b:Hid (w.heap.size<f.heap.size/\g<f.heap.size):=⟨U.out.lt,ly⟩;have K0:Hid (LRd f w.heap.size (.slice (some ⟨g,h,none⟩) n cy) g h k y0 y1):=⟨t2,b0,b1⟩;have bb:Hid (∀ o,LRd (f.alloc o) w.heap.size (.slice (some ⟨g,h,none⟩) n cy) g h k y0 y1):=fun o=>K0.out.alloc b.out.1 b.out.2 o
 have Bq:Hid (Below w.heap.size w f):=U.out.bl;have am:=hideS (bo.out f.drew);have Z:=hideS (bo.out (f.alloc (oW ((D:Int) - i) i)).drew);have C:Hid ((f.alloc (oW ((D:Int) - i) i)).heap.size=f.heap.size+1):=by show _=_;simp
 clear ly f2 f1 G J;have ca:Hid (IntKind.i64.wrap ((k:Int)+1)=(k:Int)+1/\(0:Int)<=(k:Int)+1/\(k:Int)+1<(n:Int)/\IntKind.i64.wrap ((D:Int) - i)=(D:Int) - i):=⟨by rw [IntKind.wrap_i64];omega,by omega,by omega,by rw [IntKind.wrap_i64];omega⟩
 go_wp2_with fail
 obtain⟨f1,G,J,f5⟩:=ca.out
 go_region_held3 (fun x=>x.cell? ⟨w.heap.size,2,none⟩=some (.slice (some ⟨g,h,none⟩) n cy)/\x.cell? ⟨g,h+k,none⟩=some (.int .u64 (y0:Int))/\x.cell? ⟨g,h+(k+1),none⟩=some (.int .u64 (y1:Int))) (first | exact K0.out | exact bb.out _ | exact K3.out | exact bk.out _ | exact X.out | exact s.out _ | exact A.out _ _ | exact K5.out | exact K6.out | go_keep) (first
  | ((go_at_call 148;(with_reducible refine am.out.mono ?_);rintro e z ⟨rfl,p⟩;have M:=hideS (Bq.out.drew.trans (p.mono Bq.out.size));have K3:=hideS (LRd.below (w:=f.drew) K0.out p b.out.1 b.out.2);have v:Hid (f.heap.size<=z.heap.size):=p.size;have bk:Hid (∀ o,LRd (z.alloc o) w.heap.size (.slice (some ⟨g,h,none⟩) n cy) g h k y0 y1):=(fun o=>K3.out.alloc (Nat.lt_of_lt_of_le b.out.1 v.out) (Nat.lt_of_lt_of_le b.out.2 v.out) o);have bz:=hideS (L.out z);have ab:=hideS (L.out (z.alloc (oW ((D:Int) - i) i)));clear p))
  | ((go_at_call 148;(with_reducible refine Z.out.mono ?_);rintro e z ⟨rfl,p⟩;have M:=hideS ((Bq.out.alloc Bq.out.size (oW ((D:Int) - i) i)).drew.trans (p.mono (by have:=Bq.out.size;show w.heap.size<=(f.alloc (oW ((D:Int) - i) i)).heap.size;rw [C.out];omega)));have K3:=hideS (LRd.below (w:=(f.alloc (oW ((D:Int) - i) i)).drew) (bb.out _) p (show w.heap.size<(f.alloc (oW ((D:Int) - i) i)).heap.size by rw [C.out];have:=b.out.1;omega) (show g<(f.alloc (oW ((D:Int) - i) i)).heap.size by rw [C.out];have:=b.out.2;omega));have v:Hid (f.heap.size<=z.heap.size):=(Nat.le_trans (show f.heap.size<=(f.alloc (oW ((D:Int) - i) i)).heap.size by rw [C.out];omega) p.size);have S3:=hideS ((lI f ((D:Int) - i) i).drew.below p);have ba:=hideS (L.out z);clear p))
  | ((go_at_call 148;(with_reducible refine bz.out.mono ?_);rintro e d ⟨rfl,c⟩;have F:=hideS (M.out.trans (c.mono M.out.size));have X:=hideS (K3.out.below c (Nat.lt_of_lt_of_le b.out.1 v.out) (Nat.lt_of_lt_of_le b.out.2 v.out));have l:Hid (f.heap.size<=d.heap.size):=(Nat.le_trans v.out c.size);have s:Hid (∀ o,LRd (d.alloc o) w.heap.size (.slice (some ⟨g,h,none⟩) n cy) g h k y0 y1):=(fun o=>X.out.alloc (Nat.lt_of_lt_of_le b.out.1 l.out) (Nat.lt_of_lt_of_le b.out.2 l.out) o);have A:Hid (∀ o r,LRd ((d.alloc o).alloc r) w.heap.size (.slice (some ⟨g,h,none⟩) n cy) g h k y0 y1):=(fun o r=>(s.out o).alloc (by simp;have:=l.out;have:=b.out.1;omega) (by simp;have:=l.out;have:=b.out.2;omega) r);have K:=hideS (B.out ((d.alloc (oW ((D:Int) - i) i)).alloc (oL u t)) d.heap.size (d.alloc (oW ((D:Int) - i) i)).heap.size ((lI d _ _).alloc _) (lS _ _ _));have I:=hideS (B.out ((d.alloc (oL u t)).alloc (oW ((D:Int) - i) i)) (d.alloc (oL u t)).heap.size d.heap.size (lI _ _ _) ((lS d _ _).alloc _));have bv:Hid ((d.alloc (oW ((D:Int) - i) i)).heap.size=d.heap.size+1/\(d.alloc (oL u t)).heap.size=d.heap.size+1):=⟨by simp,by simp⟩;rw [bv.out.1] at K;rw [bv.out.2] at I;have m:Hid (∀ o r,Below w.heap.size w ((d.alloc o).alloc r)):=(fun o r=>(F.out.alloc F.out.size o).alloc (by simp;have:=F.out.size;omega) r);have cl:Hid (∀ o r,f.heap.size<=((d.alloc o).alloc r).heap.size):=(fun o r=>by simp;have:=l.out;omega);clear c))
  | ((go_at_call 148;(with_reducible refine ab.out.mono ?_);rintro e d ⟨rfl,c⟩;have Q:Hid ((z.alloc (oW ((D:Int) - i) i)).heap.size=z.heap.size+1):=(by show _=_;simp);have bi:Hid (Below w.heap.size w (z.alloc (oW ((D:Int) - i) i))):=(M.out.alloc M.out.size (oW ((D:Int) - i) i));have F:=hideS (bi.out.trans (c.mono bi.out.size));have X:=hideS ((bk.out _).below c (by rw [Q.out];have:=v.out;have:=b.out.1;omega) (by rw [Q.out];have:=v.out;have:=b.out.2;omega));have l:Hid (f.heap.size<=d.heap.size):=(Nat.le_trans (Nat.le_trans v.out (by rw [Q.out];omega)) c.size);have s:Hid (∀ o,LRd (d.alloc o) w.heap.size (.slice (some ⟨g,h,none⟩) n cy) g h k y0 y1):=(fun o=>X.out.alloc (Nat.lt_of_lt_of_le b.out.1 l.out) (Nat.lt_of_lt_of_le b.out.2 l.out) o);have A:Hid (∀ o r,LRd ((d.alloc o).alloc r) w.heap.size (.slice (some ⟨g,h,none⟩) n cy) g h k y0 y1):=(fun o r=>(s.out o).alloc (by simp;have:=l.out;have:=b.out.1;omega) (by simp;have:=l.out;have:=b.out.2;omega) r);have al:=hideS (B.out (d.alloc (oL u t)) z.heap.size d.heap.size (((lI z _ _).below c).alloc _) (lS d _ _));have m:Hid (∀ o,Below w.heap.size w (d.alloc o)):=(fun o=>F.out.alloc F.out.size o);clear c))
  | ((go_at_call 148;(with_reducible refine ba.out.mono ?_);rintro e d ⟨rfl,c⟩;have F:=hideS (M.out.trans (c.mono M.out.size));have X:=hideS (K3.out.below c (Nat.lt_of_lt_of_le b.out.1 v.out) (Nat.lt_of_lt_of_le b.out.2 v.out));have l:Hid (f.heap.size<=d.heap.size):=(Nat.le_trans v.out c.size);have s:Hid (∀ o,LRd (d.alloc o) w.heap.size (.slice (some ⟨g,h,none⟩) n cy) g h k y0 y1):=(fun o=>X.out.alloc (Nat.lt_of_lt_of_le b.out.1 l.out) (Nat.lt_of_lt_of_le b.out.2 l.out) o);have A:Hid (∀ o r,LRd ((d.alloc o).alloc r) w.heap.size (.slice (some ⟨g,h,none⟩) n cy) g h k y0 y1):=(fun o r=>(s.out o).alloc (by simp;have:=l.out;have:=b.out.1;omega) (by simp;have:=l.out;have:=b.out.2;omega) r);have br:=hideS (B.out (d.alloc (oL u t)) f.heap.size d.heap.size ((S3.out.below c).alloc _) (lS d _ _));have m:Hid (∀ o,Below w.heap.size w (d.alloc o)):=(fun o=>F.out.alloc F.out.size o);clear c))
  | ((go_at_call 146;(with_reducible refine br.out.mono ?_);rintro e T ⟨rfl,a⟩;have Y:=hideS ((m.out _).trans (a.mono (m.out _).size));have K5:=hideS ((s.out _).below a (by simp;have:=l.out;have:=b.out.1;omega) (by simp;have:=l.out;have:=b.out.2;omega));have z5:Hid (f.heap.size<=T.heap.size):=(Nat.le_trans (by simp;have:=l.out;omega) a.size);clear a))
  | ((go_at_call 146;(with_reducible refine al.out.mono ?_);rintro e T ⟨rfl,a⟩;have Y:=hideS ((m.out _).trans (a.mono (m.out _).size));have K5:=hideS ((s.out _).below a (by simp;have:=l.out;have:=b.out.1;omega) (by simp;have:=l.out;have:=b.out.2;omega));have z5:Hid (f.heap.size<=T.heap.size):=(Nat.le_trans (by simp;have:=l.out;omega) a.size);clear a))
  | ((go_at_call 146;(with_reducible refine K.out.mono ?_);rintro e T ⟨rfl,a⟩;have Y:=hideS ((m.out _ _).trans (a.mono (m.out _ _).size));have K5:=hideS ((A.out _ _).below a (by simp;have:=l.out;have:=b.out.1;omega) (by simp;have:=l.out;have:=b.out.2;omega));have z5:Hid (f.heap.size<=T.heap.size):=(Nat.le_trans (by simp;have:=l.out;omega) a.size);clear a))
  | ((go_at_call 146;(with_reducible refine I.out.mono ?_);rintro e T ⟨rfl,a⟩;have Y:=hideS ((m.out _ _).trans (a.mono (m.out _ _).size));have K5:=hideS ((A.out _ _).below a (by simp;have:=l.out;have:=b.out.1;omega) (by simp;have:=l.out;have:=b.out.2;omega));have z5:Hid (f.heap.size<=T.heap.size):=(Nat.le_trans (by simp;have:=l.out;omega) a.size);clear a))
  | ((go_at_call 64;refine (cd.out _).mono ?_;rintro e w6 ⟨rfl,O⟩;have B6:=hideS (Y.out.trans (O.mono Y.out.size));have K6:=hideS (K5.out.below O (Nat.lt_of_lt_of_le b.out.1 z5.out) (Nat.lt_of_lt_of_le b.out.2 z5.out));clear O)))
 all_goals
  clear t0 t1 t2 a0 a1 b0 b1;obtain⟨u2,u0,u1⟩:=K6.out
  go_wp2_with fail
  go_quiet ((go_at_call 149;exact Calls.quiet_of_same (cc.out _)))
  go_wp2_with fail
  go_ret2
  exact⟨rfl,B6.out.os,B6.out.tape,B6.out.output,B6.out.size,B6.out.block⟩
def logV (a ex:Nat->Nat) (ys:List Nat) (k D:Nat) (i:Int):Nat:=heldN (ex (aR (wAt [(D:Int) - i,i] [a (ys.getD k 0),a (ys.getD (k+1) 0)] 2) D)) (ys.getD k 0) (ys.getD (k+1) 0)
theorem yz (b ex:Nat->Nat) (x:Int) (q o:Option Addr) (r t cx u z cy n k D:Nat) (i:Int) (xs:List Int) (ys:List Nat) (w:World) (h:OkT 4 xs ys) (hn:xs.length=n) (G:FindO 4 xs ys x (k:Int) 0) (m:Inside xs x k D i) (d:TSrc w q o r t u z xs ys)
  (l:∀ y,b y<18446744073709551616) (v:∀ y,ex y<18446744073709551616)
  (A:∀ j,j=k\/j=k+1->∀ c,Calls Tryz.prog 148 #[.int .u64 (ys.getD j 0:Nat)] c fun e g=>e=.returned (.int .u64 (b (ys.getD j 0):Nat))/\Below c.heap.size c g)
  (E:∀ c,Calls Tryz.prog 64 #[.int .u64 (aR (wAt [(D:Int) - i,i] [b (ys.getD k 0),b (ys.getD (k+1) 0)] 2) D:Nat)] c fun e g=>e=.returned (.int .u64 (ex (aR (wAt [(D:Int) - i,i] [b (ys.getD k 0),b (ys.getD (k+1) 0)] 2) D):Nat))/\Below c.heap.size c g) :
  Calls Tryz.prog 107 #[.agg #[.int .i64 4,.slice q n cx,.slice o n cy],.int .i64 x] w fun e g=>e=.returned (.tuple #[.int .u64 (logV b ex ys k D i:Int),.int .i64 0])/\Below w.heap.size w g:=by
 have s:=h.len;have J:=h.hi;have F:=m.lt;have H:lH w 4 (.slice q n cx) (.slice o n cy) x (k:Int) 0:=fun c I=>by
  have:=cJ 4 x k 0 q o r t cx u z cy xs ys c G (d.below I);rw [s,hn] at this
  exact this
 obtain rfl:=d.x.at_ (by omega)
 obtain rfl:=d.y.at_ (by omega)
 have C:=aq (h.node k (by omega))
 have B:=aq (h.node (k+1) (by omega))
 exact Pk x r t cx u z cy n k D (xs.getD k 0) (xs.getD (k+1) 0) i (ys.getD k 0) (ys.getD (k+1) 0) (b (ys.getD k 0)) (b (ys.getD (k+1) 0)) _ w (fun g p=>by
   have a:=d.below p.bl;exact⟨p.t0,p.t1,p.t2,a.x.cell k (by omega),a.x.cell (k+1) (by omega),a.y.cell k (by omega),a.y.cell (k+1) (by omega),a.y.lt (by omega)⟩)
  (by omega) (by omega) C.1 B.2.1 m.hD m.hi m.lo m.hi' (by have:=(d.f k (by omega)).2;omega) (by have:=(d.f (k+1) (by omega)).2;omega) (l _) (l _) (v _) (A k (Or.inl rfl)) (A (k+1) (Or.inr rfl)) E H
inductive AtR (xs:List Int) (ys:List Nat):Int->Int->Nat->Nat->Prop
 | node (kind x:Int) (k:Nat) (h:xs.getD k 0=x):AtR xs ys kind x k (ys.getD k 0)
 | flat (x:Int) (k:Nat) (h:xs.getD k 0≠x):AtR xs ys 1 x k (ys.getD k 0)
 | lin (x:Int) (k D:Nat) (i:Int) (h:Inside xs x k D i):AtR xs ys 2 x k (linV ys k D i)
 | cub (x:Int) (k D:Nat) (i:Int) (h:Inside xs x k D i):AtR xs ys 3 x k (AR (ptL xs ys k) D i)
theorem eo {kind:Int} {xs:List Int} {ys:List Nat} {x:Int} {k D:Nat} {i:Int} (h:OkT kind xs ys) (a:Inside xs x k D i):0<D/\(D:Int)<=109572:=by
 have b:=aq (h.node k (by have:=a.lt;omega))
 have c:=aq (h.node (k+1) a.lt);have:=a.hD;have:=a.lo;have:=a.hi';omega
theorem JB {kind:Int} {xs:List Int} {ys:List Nat} {k:Nat} (h:OkT kind xs ys) (c:∀ i<ys.length,U64 (ys.getD i 0:Nat)) (d:k+1<xs.length) (e:ae (ys.getD k 0:Nat)<=ae (ys.getD (k+1) 0:Nat)):∃ p q,ptL xs ys k=[ys.getD k 0,p,q,ys.getD (k+1) 0]/\Up4 (ys.getD k 0) p q (ys.getD (k+1) 0):=by
 have g:=h.step d;have f:=aq (h.node k (by omega))
 have j:=aq (h.node (k+1) d);obtain⟨a,b⟩:=iD (m:=xs.getD (k+1) 0 - xs.getD k 0) (by omega) (by omega)
 exact⟨_,_,rfl,OT a b (gK h c k) (gK h c (k+1)) (aN h c (by omega)) (aN h c d) e⟩
theorem yA {kind:Int} {xs:List Int} {ys:List Nat} {k:Nat} (h:OkT kind xs ys) (c:∀ i<ys.length,U64 (ys.getD i 0:Nat)) (d:k+1<xs.length) (e:ae (ys.getD (k+1) 0:Nat)<=ae (ys.getD k 0:Nat)):∃ p q,ptL xs ys k=[ys.getD k 0,p,q,ys.getD (k+1) 0]/\Down4 (ys.getD k 0) p q (ys.getD (k+1) 0):=by
 have g:=h.step d;have f:=aq (h.node k (by omega))
 have j:=aq (h.node (k+1) d);obtain⟨a,b⟩:=iD (m:=xs.getD (k+1) 0 - xs.getD k 0) (by omega) (by omega)
 exact⟨_,_,rfl,IP a b (gK h c k) (gK h c (k+1)) (aN h c (by omega)) (aN h c d) e⟩
theorem yB {kind:Int} {xs:List Int} {ys:List Nat} {x:Int} {k D K:Nat} {i:Int} (d:K=1074) (h:OkT kind xs ys) (b:∀ i<ys.length,U64 (ys.getD i 0:Nat)) (a:Inside xs x k D i):linV ys k D i=overG (eJ (D:Int) i (uI K (ys.getD k 0)) (uI K (ys.getD (k+1) 0))) D:=by
 have e:=a.lt;have c:=eo h a;have:=a.lo;have:=a.hi';exact mL d (aN h b (by omega)) (aN h b e) (by omega) (by omega) c.2
theorem qH {kind x:Int} {xs:List Int} {ys:List Nat} {k V:Nat} (h:OkT kind xs ys) (o:∀ i<ys.length,U64 (ys.getD i 0:Nat)) (u:k<xs.length) (v:AtR xs ys kind x k V) (r:k+1<xs.length->ae (ys.getD k 0:Nat)<=ae (ys.getD (k+1) 0:Nat)) :
  U64 (V:Nat)/\ah (V:Nat)=false/\ae (ys.getD k 0:Nat)<=ae (V:Nat)/\(k+1<xs.length->ae (V:Nat)<=ae (ys.getD (k+1) 0:Nat)):=by
 have l:=aN h o u;cases v with
 | node kind x k w=>exact⟨aU l.lt,l.nn.nan,Int.le_refl _,r⟩
 | flat x k w=>exact⟨aU l.lt,l.nn.nan,Int.le_refl _,r⟩
 | lin x k D i j=>
  have s:=eo h j;have n:=j.lt;have a:=j.lo;have b:=j.hi';rw [yB rfl h o j];obtain⟨c,d,e⟩:=cA (eJ (D:Int) i (uI 1074 (ys.getD k 0)) (uI 1074 (ys.getD (k+1) 0))) D;obtain⟨f,g⟩:=xM (K:=1074) rfl l (aN h o n) (show 0<=i by omega) (show i<=(D:Int) by omega) s.1 (r n)
  rw [e];exact⟨c,d,f,fun _=>g⟩
 | cub x k D i j=>
  have s:=eo h j;have n:=j.lt;have a:=j.lo;have b:=j.hi';obtain⟨p,q,t,m⟩:=JB h o n (r n);rw [t,te (K:=1074) rfl m.n0 m.n1 m.n2 m.n3 (by omega) (by omega) s.2]
  obtain⟨c,d,e⟩:=cA (eD (D:Int) i (uI 1074 (ys.getD k 0)) (uI 1074 p) (uI 1074 q) (uI 1074 (ys.getD (k+1) 0))) (D*D*D);obtain⟨f,g⟩:=xN (K:=1074) rfl m (show 0<=i by omega) (show i<=(D:Int) by omega) s.1
  rw [e];exact⟨c,d,f,fun _=>g⟩
theorem lT {kind x:Int} {xs:List Int} {ys:List Nat} {k V:Nat} (h:OkT kind xs ys) (o:∀ i<ys.length,U64 (ys.getD i 0:Nat)) (u:k<xs.length) (v:AtR xs ys kind x k V) (r:k+1<xs.length->ae (ys.getD (k+1) 0:Nat)<=ae (ys.getD k 0:Nat)) :
  U64 (V:Nat)/\ah (V:Nat)=false/\ae (V:Nat)<=ae (ys.getD k 0:Nat)/\(k+1<xs.length->ae (ys.getD (k+1) 0:Nat)<=ae (V:Nat)):=by
 have l:=aN h o u;cases v with
 | node kind x k w=>exact⟨aU l.lt,l.nn.nan,Int.le_refl _,r⟩
 | flat x k w=>exact⟨aU l.lt,l.nn.nan,Int.le_refl _,r⟩
 | lin x k D i j=>
  have s:=eo h j;have n:=j.lt;have a:=j.lo;have b:=j.hi';rw [yB rfl h o j];obtain⟨c,d,e⟩:=cA (eJ (D:Int) i (uI 1074 (ys.getD k 0)) (uI 1074 (ys.getD (k+1) 0))) D;obtain⟨f,g⟩:=sd (K:=1074) rfl l (aN h o n) (show 0<=i by omega) (show i<=(D:Int) by omega) s.1 (r n)
  rw [e];exact⟨c,d,g,fun _=>f⟩
 | cub x k D i j=>
  have s:=eo h j;have n:=j.lt;have a:=j.lo;have b:=j.hi';obtain⟨p,q,t,m⟩:=yA h o n (r n);rw [t,te (K:=1074) rfl m.n0 m.n1 m.n2 m.n3 (by omega) (by omega) s.2]
  obtain⟨c,d,e⟩:=cA (eD (D:Int) i (uI 1074 (ys.getD k 0)) (uI 1074 p) (uI 1074 q) (uI 1074 (ys.getD (k+1) 0))) (D*D*D);obtain⟨f,g⟩:=sf (K:=1074) rfl m (show 0<=i by omega) (show i<=(D:Int) by omega) s.1
  rw [e];exact⟨c,d,g,fun _=>f⟩
theorem Dp {x:Nat} (h:NN x):ae (x:Nat)=sgZ (sB x) (x % 9223372036854775808):=by
 have b:=h.nan;have c:=h.lt;unfold ae;rw [b,if_neg (by decide)]
 unfold sgB szI sgZ sB
 by_cases a:(9223372036854775808:Int)<=(x:Int)
 ·rw [show x / 9223372036854775808 % 2=1 by omega]
  simp [a]
 ·rw [show x / 9223372036854775808 % 2=0 by omega]
  simp [a]
structure Opp (x y:Nat):Prop where
 nx:NN x
 ny:NN y
 rk:ae (y:Nat)= -ae (x:Nat)
theorem Opp.sz {x y:Nat} (h:Opp x y):y % 9223372036854775808=x % 9223372036854775808/\(x % 9223372036854775808≠0->sB y=!sB x):=by
 have e:=h.rk;rw [Dp h.nx,Dp h.ny] at e
 unfold sgZ at e
 cases b:sB x<;>cases a:sB y<;>rw [b,a] at e<;>simp at e<;>refine⟨by omega,fun c=>?_⟩
 ·omega
 ·rfl
 ·rfl
 ·omega
theorem Opp.symm {x y:Nat} (h:Opp x y):Opp y x:=⟨h.ny,h.nx,by have:=h.rk;omega⟩
theorem Opp.num {x y:Nat} (h:Opp x y) (a:af x):af y:=by unfold af at *;rw [h.sz.1];exact a
theorem Opp.vI {x y:Nat} (h:Opp x y):vI y= -vI x:=by
 obtain⟨b,c⟩:=h.sz;rw [ko,ko];unfold aV;rw [b]
 by_cases a:x % 9223372036854775808=0
 ·rw [a,bp];unfold sgZ;split<;>split<;>rfl
 ·rw [c a];cases sB x<;>simp [sgZ]
theorem Fl {v a b:Int} (c:ah v=false) (d:ah a=false) (e:ah b=false):ah (dC v a b)=false/\ae (dC v a b)=max (min (ae a) (ae b)) (min (max (ae a) (ae b)) (ae v)):=by
 unfold dC;rw [aC e d,aC c e,aC d c,aC d e,aC c d,aC e c];simp only [decide_eq_true_eq]
 (repeat' split)<;>exact⟨by assumption,by omega⟩
noncomputable def lnW (y:Nat):Nat:=if y<18446744073709551616 then cn (lnF y) else 0
noncomputable def exW (y:Nat):Nat:=if y<18446744073709551616 then cn (lQ y) else 0
theorem Pm (y:Nat):lnW y<18446744073709551616:=by
 unfold lnW
 split
 ·rename_i h;exact (jl h).lt
 ·decide
theorem JC (y:Nat):exW y<18446744073709551616:=by
 unfold exW
 split
 ·rename_i h;cases a:ah (y:Int) with
  | true=>rw [(ce h).nan a,lu];omega
  | false=>
   obtain⟨z,e,b⟩:=(ce h).num a;rw [e,ar];omega
 ·decide
theorem jQ {y:Nat} (h:NumW y) (c:ltB 0 (y:Nat)=true):NumW (lnW y):=by
 obtain⟨d,f⟩:=iC h.lt c;have b:=jl h.lt;obtain⟨z,e,g⟩:=b.fin h.nb f d;have a:=b.lt;unfold lnW;rw [if_pos h.lt];rw [e,ar] at a ⊢
 exact⟨a,g⟩
theorem JD {xs:List Int} {ys:List Nat} {x:Int} {k D:Nat} {i:Int} (h:OkT 4 xs ys) (p:∀ i<ys.length,U64 (ys.getD i 0:Nat)) (j:Inside xs x k D i) :
  ah (logV lnW exW ys k D i:Nat)=false/\logV lnW exW ys k D i<18446744073709551616/\min (ae (ys.getD k 0:Nat)) (ae (ys.getD (k+1) 0:Nat))<=ae (logV lnW exW ys k D i:Nat)/\ae (logV lnW exW ys k D i:Nat)<=max (ae (ys.getD k 0:Nat)) (ae (ys.getD (k+1) 0:Nat)):=by
 have q:=j.lt;have z:=eo h j;have a:=j.lo;have b:=j.hi';have g:=aN h p (show k<xs.length by omega)
 have f:=aN h p q;have A:=(aq (h.node k (by omega))).2.2.2.2 rfl
 have s:=(aq (h.node (k+1) q)).2.2.2.2 rfl;have B:=jQ g A;have y:=jQ f s;unfold logV;rw [mL (K:=1074) rfl B y (by omega) (by omega) z.2]
 obtain⟨w,t,_⟩:=cA (eJ (D:Int) i (uI 1074 (lnW (ys.getD k 0))) (uI 1074 (lnW (ys.getD (k+1) 0)))) D;generalize overG (eJ (D:Int) i (uI 1074 (lnW (ys.getD k 0))) (uI 1074 (lnW (ys.getD (k+1) 0)))) D=o at *
 have d:o<18446744073709551616:=by have:=w.2;omega
 obtain⟨e,C,m⟩:=(ce d).num t;have u:exW o=e:=by unfold exW;rw [if_pos d,C];rfl
 rw [u];have c:e<18446744073709551616:=by omega
 have r:=(kK m).2.2;obtain⟨n,l⟩:=Fl (v:=(e:Nat)) r g.nn.nan f.nn.nan;rw [<- fC c g.lt f.lt] at n l
 exact⟨n,jg c g.lt f.lt,by rw [l];omega,by rw [l];omega⟩
theorem vA (x:Int) (m f:Option Addr) (o q cx v z cy n k D:Nat) (i:Int) (xs:List Int) (ys:List Nat) (w:World) (h:OkT 4 xs ys) (t:∀ i<ys.length,U64 (ys.getD i 0:Nat)) (hn:xs.length=n) (l:FindO 4 xs ys x (k:Int) 0) (c:Inside xs x k D i) (C:TSrc w m f o q v z xs ys) :
  Calls Tryz.prog 107 #[.agg #[.int .i64 4,.slice m n cx,.slice f n cy],.int .i64 x] w fun e F=>e=.returned (.tuple #[.int .u64 (logV lnW exW ys k D i:Int),.int .i64 0])/\Below w.heap.size w F:=by
 have y:=c.lt;have s:=aN h t (show k<xs.length by omega)
 have p:=aN h t y;have G:=eo h c;have a:=c.lo;have b:=c.hi';have H:=(aq (h.node k (by omega))).2.2.2.2 rfl
 have B:=(aq (h.node (k+1) y)).2.2.2.2 rfl;have I:=jQ s H;have E:=jQ p B;have u:=(cA (eJ (D:Int) i (uI 1074 (lnW (ys.getD k 0))) (uI 1074 (lnW (ys.getD (k+1) 0)))) D).1;rw [<- mL (K:=1074) rfl I E (by omega) (by omega) G.2] at u
 refine yz lnW exW x m f o q cx v z cy n k D i xs ys w h hn l c C Pm JC (fun j A g=>?_) (fun g=>?_)
 ·have r:ys.getD j 0<18446744073709551616:=by
   rcases A with rfl | rfl
   ·exact s.lt
   ·exact p.lt
  have:=(jl r).doc g;unfold lnW;rw [if_pos r];exact this
 ·have d:aR (wAt [(D:Int) - i,i] [lnW (ys.getD k 0),lnW (ys.getD (k+1) 0)] 2) D<18446744073709551616:=by have:=u.2;omega
  have:=(ce d).doc g;have e:exW (aR (wAt [(D:Int) - i,i] [lnW (ys.getD k 0),lnW (ys.getD (k+1) 0)] 2) D)=cn (lQ (aR (wAt [(D:Int) - i,i] [lnW (ys.getD k 0),lnW (ys.getD (k+1) 0)] 2) D)):=by unfold exW;rw [if_pos d]
  rw [e];exact this
end Go.Proofs.YtfdddijdjpijbaaGreat
