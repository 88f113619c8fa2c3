/-  -/
import Derived.Test.YtfdddijdjpijbaaGreatHbl
import Derived.Test.YtfdddijdjpijbaaGreatHba
set_option maxHeartbeats 6400000
set_option maxRecDepth 20000
namespace Go.Proofs.YtfdddijdjpijbaaGreat
open Go.RowKit
def LRd (w:World) (B:Nat) (c:Value) (a b k:Nat) (y0 y1:Nat):Prop:=
 w.cell? ⟨B,2,none⟩=some c/\w.cell? ⟨a,b+k,none⟩=some (.int .u64 (y0:Int))/\w.cell? ⟨a,b+(k+1),none⟩=some (.int .u64 (y1:Int))
theorem LRd.below {w e:World} {B s:Nat} {f:Value} {a b k:Nat} {y0 y1:Nat} (h:LRd w B f a b k y0 y1) (c:Below s w e) (g:B<s) (d:a<s):LRd e B f a b k y0 y1:=
 ⟨(c.cell (p:=⟨B,2,none⟩) g).trans h.1,(c.cell (p:=⟨a,b+k,none⟩) d).trans h.2.1,(c.cell (p:=⟨a,b+(k+1),none⟩) d).trans h.2.2⟩
theorem LRd.alloc {w:World} {B:Nat} {c:Value} {a b k:Nat} {y0 y1:Nat} (h:LRd w B c a b k y0 y1) (e:B<w.heap.size) (d:a<w.heap.size) (o:Obj):LRd (w.alloc o) B c a b k y0 y1:=
 h.below ((Below.refl w.heap.size w).alloc (Nat.le_refl _) o) e d
abbrev oW (a b:Int):Obj:=.cells #[.int .i64 a,.int .i64 b] 3
abbrev oL (a b:Nat):Obj:=.cells #[.int .u64 (a:Int),.int .u64 (b:Int)] 41
theorem lS (w:World) (a b:Nat):VSrc (w.alloc (oL a b)) (some ⟨w.heap.size,0,none⟩) w.heap.size 0 2 (yV [a,b]):=
 ⟨fun _=>rfl,fun _=>by simp,fun j c=>by
  rcases (show j=0\/j=1 by omega) with rfl | rfl
  ·simp [yV]
  ·simp [yV]⟩
theorem VSrc.alloc {w:World} {p:Option Addr} {b off n:Nat} {f:Nat->Value} (h:VSrc w p b off n f) (o:Obj):VSrc (w.alloc o) p b off n f:=h.below ((Below.refl _ w).alloc (Nat.le_refl _) o)
theorem VSrc.drew {w:World} {p:Option Addr} {b off n:Nat} {f:Nat->Value} (h:VSrc w p b off n f):VSrc w.drew p b off n f:=⟨h.at_,h.lt,h.cell⟩
theorem Pk (x:Int) (L P cx g h cy n k D:Nat) (C x1 i:Int) (y0 y1 u t ev:Nat) (w:World)
  (hR:∀ y,TBox w 4 (.slice (some ⟨L,P,none⟩) n cx) (.slice (some ⟨g,h,none⟩) n cy) y->ARd y w.heap.size 4 (.slice (some ⟨L,P,none⟩) n cx) (.slice (some ⟨g,h,none⟩) n cy) L P g h k C x1 y0 y1)
  (hk:k+1<n) (hn:n<=256) (h0:0<=C) (h1:x1<=109572) (hD:x1 - C=(D:Int)) (hi:x - C=i) (ca:0<i) (cd:i<(D:Int)) (ba:y0<18446744073709551616) (ab:y1<18446744073709551616) (ad:u<18446744073709551616) (al:t<18446744073709551616) (ac:ev<18446744073709551616)
  (ak:Hid (∀ q,Calls Tryz.prog 148 #[.int .u64 (y0:Int)] q fun e y=>e=.returned (.int .u64 (u:Int))/\Below q.heap.size q y))
  (S:Hid (∀ q,Calls Tryz.prog 148 #[.int .u64 (y1:Int)] q fun e y=>e=.returned (.int .u64 (t:Int))/\Below q.heap.size q y))
  (bv:Hid (∀ q,Calls Tryz.prog 64 #[.int .u64 (aR (wAt [(D:Int) - i,i] [u,t] 2) D:Int)] q fun e y=>e=.returned (.int .u64 (ev:Int))/\Below q.heap.size q y))
  (H:Hid (lH w 4 (.slice (some ⟨L,P,none⟩) n cx) (.slice (some ⟨g,h,none⟩) n cy) x (k:Int) 0)) :
  Calls Tryz.prog 107 #[.agg #[.int .i64 4,.slice (some ⟨L,P,none⟩) n cx,.slice (some ⟨g,h,none⟩) n cy],.int .i64 x] w fun e y=>e=.returned (.tuple #[.int .u64 (heldN ev y0 y1:Int),.int .i64 0])/\Below w.heap.size w y:=by
 have HB:=hideS (bQ w 4 (.slice (some ⟨L,P,none⟩) n cx) (.slice (some ⟨g,h,none⟩) n cy));unfold lH at H
 have HR:=hideS hR;have bs:=hideS fun q=>mF ev y0 y1 q ac ba ab
 have F:Hid (∀ q G J,VSrc q (some ⟨G,0,none⟩) G 0 2 (xV [(D:Int) - i,i])->VSrc q (some ⟨J,0,none⟩) J 0 2 (yV [u,t])->Calls Tryz.prog 146 #[.slice (some ⟨G,0,none⟩) 2 2,.slice (some ⟨J,0,none⟩) 2 2,.int .i64 (D:Int)] q fun e y=>e=.returned (.int .u64 (aR (wAt [(D:Int) - i,i] [u,t] 2) D:Int))/\Below q.heap.size q y):=fun q G J s1 s2=>
  jh G 0 2 J 0 2 2 D [(D:Int) - i,i] [u,t] q s1 s2 (by omega) (by omega) (fun j hj=>by
   rcases (show j=0\/j=1 by omega) with rfl | rfl
   ·show -9007199254740992<=(D:Int) - i/\(D:Int) - i<=_;omega
   ·show -9007199254740992<=i/\i<=_;omega) (fun j hj=>by
   rcases (show j=0\/j=1 by omega) with rfl | rfl
   ·exact ad
   ·exact al) (by omega) (by omega)
 generalize aR (wAt [(D:Int) - i,i] [u,t] 2) D=R at *
 generalize heldN ev y0 y1=V at *
 have f1:IntKind.i64.wrap ((k:Int)+1)=(k:Int)+1:=by rw [IntKind.wrap_i64];omega
 have f2:IntKind.i64.wrap (x1 - C)=x1 - C:=by rw [IntKind.wrap_i64];omega
 have f3:IntKind.i64.wrap (x - C)=x - C:=by rw [IntKind.wrap_i64];omega
 have G:(0:Int)<=(k:Int)+1:=by omega
 have J:(k:Int)+1<(n:Int):=by omega
 have g3:(0:Int)<=(k:Int):=by omega
 have g4:(k:Int)<(n:Int):=by omega
 have hx:(C==x)=false:=beq_false_of_ne (by omega)
 have cf:(D:Int)<=109572:=by omega
 clear hR ba ab ad al ac
 go_enter Tryz.func107,Tryz.ntmps107
 go_wp2_with fail
 refine (H.out _ HB.out.bl).mono ?_
 rintro e w1 ⟨rfl,ai⟩;have N:=hideS (HB.out.step ai);clear ai;have hA:=HR.out w1 N.out;obtain⟨t0,t1,t2,a0,a1,b0,b1,ly⟩:=hA
 go_wp2_with fail
 go_quiet (fail)
 obtain⟨f,Q⟩:∃ f,w1.drewN nq=f:=⟨_,rfl⟩;rw [Q];have T:Hid (TBox w 4 (.slice (some ⟨L,P,none⟩) n cx) (.slice (some ⟨g,h,none⟩) n cy) f):=by show TBox _ _ _ _ _;rw [<- Q];exact N.out.drewN nq
 clear Q t0 t1 t2 a0 a1 b0 b1 ly N;obtain⟨t0,t1,t2,a0,a1,b0,b1,ly⟩:=HR.out f T.out;have b:Hid (w.heap.size<f.heap.size/\g<f.heap.size):=⟨T.out.lt,ly⟩;have K0:Hid (LRd f w.heap.size (.slice (some ⟨g,h,none⟩) n cy) g h k y0 y1):=⟨t2,b0,b1⟩;have bi:Hid (∀ o,LRd (f.alloc o) w.heap.size (.slice (some ⟨g,h,none⟩) n cy) g h k y0 y1):=fun o=>K0.out.alloc b.out.1 b.out.2 o
 have Bq:Hid (Below w.heap.size w f):=T.out.bl;have bo:=hideS (ak.out f.drew);have bk:=hideS (ak.out (f.alloc (oW ((D:Int) - i) i)).drew);have B:Hid ((f.alloc (oW ((D:Int) - i) i)).heap.size=f.heap.size+1):=by show _=_;simp
 clear ly f2 f1 G J;have bz:Hid (IntKind.i64.wrap ((k:Int)+1)=(k:Int)+1/\(0:Int)<=(k:Int)+1/\(k:Int)+1<(n:Int)/\IntKind.i64.wrap ((D:Int) - i)=(D:Int) - i):=⟨by rw [IntKind.wrap_i64];omega,by omega,by omega,by rw [IntKind.wrap_i64];omega⟩
 go_wp2_with fail
 obtain⟨f1,G,J,f5⟩:=bz.out
 go_region_held3 (fun x=>x.cell? ⟨w.heap.size,2,none⟩=some (.slice (some ⟨g,h,none⟩) n cy)/\x.cell? ⟨g,h+k,none⟩=some (.int .u64 (y0:Int))/\x.cell? ⟨g,h+(k+1),none⟩=some (.int .u64 (y1:Int))) (first | exact K0.out | exact bi.out _ | exact K3.out | exact Y.out _ | exact X.out | exact s.out _ | exact A.out _ _ | exact K5.out | exact K6.out | go_keep) (first
  | ((go_at_call 148;(with_reducible refine bo.out.mono ?_);rintro e z ⟨rfl,p⟩;have U:=hideS (Bq.out.drew.trans (p.mono Bq.out.size));have K3:=hideS (LRd.below (w:=f.drew) K0.out p b.out.1 b.out.2);have v:Hid (f.heap.size<=z.heap.size):=p.size;have Y:Hid (∀ o,LRd (z.alloc o) w.heap.size (.slice (some ⟨g,h,none⟩) n cy) g h k y0 y1):=(fun o=>K3.out.alloc (Nat.lt_of_lt_of_le b.out.1 v.out) (Nat.lt_of_lt_of_le b.out.2 v.out) o);have am:=hideS (S.out z);have Z:=hideS (S.out (z.alloc (oW ((D:Int) - i) i)));clear p))
  | ((go_at_call 148;(with_reducible refine bk.out.mono ?_);rintro e z ⟨rfl,p⟩;have U:=hideS ((Bq.out.alloc Bq.out.size (oW ((D:Int) - i) i)).drew.trans (p.mono (by have:=Bq.out.size;show w.heap.size<=(f.alloc (oW ((D:Int) - i) i)).heap.size;rw [B.out];omega)));have K3:=hideS (LRd.below (w:=(f.alloc (oW ((D:Int) - i) i)).drew) (bi.out _) p (show w.heap.size<(f.alloc (oW ((D:Int) - i) i)).heap.size by rw [B.out];have:=b.out.1;omega) (show g<(f.alloc (oW ((D:Int) - i) i)).heap.size by rw [B.out];have:=b.out.2;omega));have v:Hid (f.heap.size<=z.heap.size):=(Nat.le_trans (show f.heap.size<=(f.alloc (oW ((D:Int) - i) i)).heap.size by rw [B.out];omega) p.size);have S3:=hideS ((lI f ((D:Int) - i) i).drew.below p);have as:=hideS (S.out z);clear p))
  | ((go_at_call 148;(with_reducible refine am.out.mono ?_);rintro e c ⟨rfl,d⟩;have E:=hideS (U.out.trans (d.mono U.out.size));have X:=hideS (K3.out.below d (Nat.lt_of_lt_of_le b.out.1 v.out) (Nat.lt_of_lt_of_le b.out.2 v.out));have l:Hid (f.heap.size<=c.heap.size):=(Nat.le_trans v.out d.size);have s:Hid (∀ o,LRd (c.alloc o) w.heap.size (.slice (some ⟨g,h,none⟩) n cy) g h k y0 y1):=(fun o=>X.out.alloc (Nat.lt_of_lt_of_le b.out.1 l.out) (Nat.lt_of_lt_of_le b.out.2 l.out) o);have A:Hid (∀ o r,LRd ((c.alloc o).alloc r) w.heap.size (.slice (some ⟨g,h,none⟩) n cy) g h k y0 y1):=(fun o r=>(s.out o).alloc (by simp;have:=l.out;have:=b.out.1;omega) (by simp;have:=l.out;have:=b.out.2;omega) r);have K:=hideS (F.out ((c.alloc (oW ((D:Int) - i) i)).alloc (oL u t)) c.heap.size (c.alloc (oW ((D:Int) - i) i)).heap.size ((lI c _ _).alloc _) (lS _ _ _));have I:=hideS (F.out ((c.alloc (oL u t)).alloc (oW ((D:Int) - i) i)) (c.alloc (oL u t)).heap.size c.heap.size (lI _ _ _) ((lS c _ _).alloc _));have bb:Hid ((c.alloc (oW ((D:Int) - i) i)).heap.size=c.heap.size+1/\(c.alloc (oL u t)).heap.size=c.heap.size+1):=⟨by simp,by simp⟩;rw [bb.out.1] at K;rw [bb.out.2] at I;have m:Hid (∀ o r,Below w.heap.size w ((c.alloc o).alloc r)):=(fun o r=>(E.out.alloc E.out.size o).alloc (by simp;have:=E.out.size;omega) r);have cc:Hid (∀ o r,f.heap.size<=((c.alloc o).alloc r).heap.size):=(fun o r=>by simp;have:=l.out;omega);clear d))
  | ((go_at_call 148;(with_reducible refine Z.out.mono ?_);rintro e c ⟨rfl,d⟩;have O:Hid ((z.alloc (oW ((D:Int) - i) i)).heap.size=z.heap.size+1):=(by show _=_;simp);have bh:Hid (Below w.heap.size w (z.alloc (oW ((D:Int) - i) i))):=(U.out.alloc U.out.size (oW ((D:Int) - i) i));have E:=hideS (bh.out.trans (d.mono bh.out.size));have X:=hideS ((Y.out _).below d (by rw [O.out];have:=v.out;have:=b.out.1;omega) (by rw [O.out];have:=v.out;have:=b.out.2;omega));have l:Hid (f.heap.size<=c.heap.size):=(Nat.le_trans (Nat.le_trans v.out (by rw [O.out];omega)) d.size);have s:Hid (∀ o,LRd (c.alloc o) w.heap.size (.slice (some ⟨g,h,none⟩) n cy) g h k y0 y1):=(fun o=>X.out.alloc (Nat.lt_of_lt_of_le b.out.1 l.out) (Nat.lt_of_lt_of_le b.out.2 l.out) o);have A:Hid (∀ o r,LRd ((c.alloc o).alloc r) w.heap.size (.slice (some ⟨g,h,none⟩) n cy) g h k y0 y1):=(fun o r=>(s.out o).alloc (by simp;have:=l.out;have:=b.out.1;omega) (by simp;have:=l.out;have:=b.out.2;omega) r);have br:=hideS (F.out (c.alloc (oL u t)) z.heap.size c.heap.size (((lI z _ _).below d).alloc _) (lS c _ _));have m:Hid (∀ o,Below w.heap.size w (c.alloc o)):=(fun o=>E.out.alloc E.out.size o);clear d))
  | ((go_at_call 148;(with_reducible refine as.out.mono ?_);rintro e c ⟨rfl,d⟩;have E:=hideS (U.out.trans (d.mono U.out.size));have X:=hideS (K3.out.below d (Nat.lt_of_lt_of_le b.out.1 v.out) (Nat.lt_of_lt_of_le b.out.2 v.out));have l:Hid (f.heap.size<=c.heap.size):=(Nat.le_trans v.out d.size);have s:Hid (∀ o,LRd (c.alloc o) w.heap.size (.slice (some ⟨g,h,none⟩) n cy) g h k y0 y1):=(fun o=>X.out.alloc (Nat.lt_of_lt_of_le b.out.1 l.out) (Nat.lt_of_lt_of_le b.out.2 l.out) o);have A:Hid (∀ o r,LRd ((c.alloc o).alloc r) w.heap.size (.slice (some ⟨g,h,none⟩) n cy) g h k y0 y1):=(fun o r=>(s.out o).alloc (by simp;have:=l.out;have:=b.out.1;omega) (by simp;have:=l.out;have:=b.out.2;omega) r);have bc:=hideS (F.out (c.alloc (oL u t)) f.heap.size c.heap.size ((S3.out.below d).alloc _) (lS c _ _));have m:Hid (∀ o,Below w.heap.size w (c.alloc o)):=(fun o=>E.out.alloc E.out.size o);clear d))
  | ((go_at_call 146;(with_reducible refine bc.out.mono ?_);rintro e W ⟨rfl,a⟩;have B5:=hideS ((m.out _).trans (a.mono (m.out _).size));have K5:=hideS ((s.out _).below a (by simp;have:=l.out;have:=b.out.1;omega) (by simp;have:=l.out;have:=b.out.2;omega));have z5:Hid (f.heap.size<=W.heap.size):=(Nat.le_trans (by simp;have:=l.out;omega) a.size);clear a))
  | ((go_at_call 146;(with_reducible refine br.out.mono ?_);rintro e W ⟨rfl,a⟩;have B5:=hideS ((m.out _).trans (a.mono (m.out _).size));have K5:=hideS ((s.out _).below a (by simp;have:=l.out;have:=b.out.1;omega) (by simp;have:=l.out;have:=b.out.2;omega));have z5:Hid (f.heap.size<=W.heap.size):=(Nat.le_trans (by simp;have:=l.out;omega) a.size);clear a))
  | ((go_at_call 146;(with_reducible refine K.out.mono ?_);rintro e W ⟨rfl,a⟩;have B5:=hideS ((m.out _ _).trans (a.mono (m.out _ _).size));have K5:=hideS ((A.out _ _).below a (by simp;have:=l.out;have:=b.out.1;omega) (by simp;have:=l.out;have:=b.out.2;omega));have z5:Hid (f.heap.size<=W.heap.size):=(Nat.le_trans (by simp;have:=l.out;omega) a.size);clear a))
  | ((go_at_call 146;(with_reducible refine I.out.mono ?_);rintro e W ⟨rfl,a⟩;have B5:=hideS ((m.out _ _).trans (a.mono (m.out _ _).size));have K5:=hideS ((A.out _ _).below a (by simp;have:=l.out;have:=b.out.1;omega) (by simp;have:=l.out;have:=b.out.2;omega));have z5:Hid (f.heap.size<=W.heap.size):=(Nat.le_trans (by simp;have:=l.out;omega) a.size);clear a))
  | ((go_at_call 64;refine (bv.out _).mono ?_;rintro e w6 ⟨rfl,M⟩;have B6:=hideS (B5.out.trans (M.mono B5.out.size));have K6:=hideS (K5.out.below M (Nat.lt_of_lt_of_le b.out.1 z5.out) (Nat.lt_of_lt_of_le b.out.2 z5.out));clear M)))
 all_goals
  clear t0 t1 t2 a0 a1 b0 b1;obtain⟨u2,u0,u1⟩:=K6.out
  go_wp2_with fail
  go_quiet ((go_at_call 149;exact Calls.quiet_of_same (bs.out _)))
  go_wp2_with fail
  go_ret2
  exact⟨rfl,B6.out.os,B6.out.tape,B6.out.output,B6.out.size,B6.out.block⟩
def logV (a ex:Nat->Nat) (ys:List Nat) (k D:Nat) (i:Int):Nat:=heldN (ex (aR (wAt [(D:Int) - i,i] [a (ys.getD k 0),a (ys.getD (k+1) 0)] 2) D)) (ys.getD k 0) (ys.getD (k+1) 0)
theorem yz (b ex:Nat->Nat) (x:Int) (q p:Option Addr) (s t cx v r cy n k D:Nat) (i:Int) (xs:List Int) (ys:List Nat) (w:World) (h:OkT 4 xs ys) (hn:xs.length=n) (G:FindO 4 xs ys x (k:Int) 0) (l:Inside xs x k D i) (g:TSrc w q p s t v r xs ys)
  (m:∀ y,b y<18446744073709551616) (u:∀ y,ex y<18446744073709551616)
  (A:∀ j,j=k\/j=k+1->∀ c,Calls Tryz.prog 148 #[.int .u64 (ys.getD j 0:Nat)] c fun e d=>e=.returned (.int .u64 (b (ys.getD j 0):Nat))/\Below c.heap.size c d)
  (C:∀ c,Calls Tryz.prog 64 #[.int .u64 (aR (wAt [(D:Int) - i,i] [b (ys.getD k 0),b (ys.getD (k+1) 0)] 2) D:Nat)] c fun e d=>e=.returned (.int .u64 (ex (aR (wAt [(D:Int) - i,i] [b (ys.getD k 0),b (ys.getD (k+1) 0)] 2) D):Nat))/\Below c.heap.size c d) :
  Calls Tryz.prog 107 #[.agg #[.int .i64 4,.slice q n cx,.slice p n cy],.int .i64 x] w fun e d=>e=.returned (.tuple #[.int .u64 (logV b ex ys k D i:Int),.int .i64 0])/\Below w.heap.size w d:=by
 have z:=h.len;have E:=h.hi;have I:=l.lt;have H:lH w 4 (.slice q n cx) (.slice p n cy) x (k:Int) 0:=fun c B=>by
  have:=cJ 4 x k 0 q p s t cx v r cy xs ys c G (g.below B);rw [z,hn] at this
  exact this
 obtain rfl:=g.x.at_ (by omega)
 obtain rfl:=g.y.at_ (by omega)
 have F:=aq (h.node k (by omega))
 have J:=aq (h.node (k+1) (by omega))
 exact Pk x s t cx v r cy n k D (xs.getD k 0) (xs.getD (k+1) 0) i (ys.getD k 0) (ys.getD (k+1) 0) (b (ys.getD k 0)) (b (ys.getD (k+1) 0)) _ w (fun d o=>by
   have a:=g.below o.bl;exact⟨o.t0,o.t1,o.t2,a.x.cell k (by omega),a.x.cell (k+1) (by omega),a.y.cell k (by omega),a.y.cell (k+1) (by omega),a.y.lt (by omega)⟩)
  (by omega) (by omega) F.1 J.2.1 l.hD l.hi l.lo l.hi' (by have:=(g.f k (by omega)).2;omega) (by have:=(g.f (k+1) (by omega)).2;omega) (m _) (m _) (u _) (A k (Or.inl rfl)) (A (k+1) (Or.inr rfl)) C H
inductive AtR (xs:List Int) (ys:List Nat):Int->Int->Nat->Nat->Prop
 | node (kind x:Int) (k:Nat) (h:xs.getD k 0=x):AtR xs ys kind x k (ys.getD k 0)
 | flat (x:Int) (k:Nat) (h:xs.getD k 0≠x):AtR xs ys 1 x k (ys.getD k 0)
 | lin (x:Int) (k D:Nat) (i:Int) (h:Inside xs x k D i):AtR xs ys 2 x k (linV ys k D i)
 | cub (x:Int) (k D:Nat) (i:Int) (h:Inside xs x k D i):AtR xs ys 3 x k (AR (ptL xs ys k) D i)
theorem eo {kind:Int} {xs:List Int} {ys:List Nat} {x:Int} {k D:Nat} {i:Int} (h:OkT kind xs ys) (a:Inside xs x k D i):0<D/\(D:Int)<=109572:=by
 have c:=aq (h.node k (by have:=a.lt;omega))
 have b:=aq (h.node (k+1) a.lt);have:=a.hD;have:=a.lo;have:=a.hi';omega
theorem JB {kind:Int} {xs:List Int} {ys:List Nat} {k:Nat} (h:OkT kind xs ys) (c:∀ i<ys.length,U64 (ys.getD i 0:Nat)) (d:k+1<xs.length) (e:ae (ys.getD k 0:Nat)<=ae (ys.getD (k+1) 0:Nat)):∃ p q,ptL xs ys k=[ys.getD k 0,p,q,ys.getD (k+1) 0]/\Up4 (ys.getD k 0) p q (ys.getD (k+1) 0):=by
 have f:=h.step d;have g:=aq (h.node k (by omega))
 have j:=aq (h.node (k+1) d);obtain⟨a,b⟩:=iD (m:=xs.getD (k+1) 0 - xs.getD k 0) (by omega) (by omega)
 exact⟨_,_,rfl,OT a b (gK h c k) (gK h c (k+1)) (aN h c (by omega)) (aN h c d) e⟩
theorem yA {kind:Int} {xs:List Int} {ys:List Nat} {k:Nat} (h:OkT kind xs ys) (c:∀ i<ys.length,U64 (ys.getD i 0:Nat)) (d:k+1<xs.length) (e:ae (ys.getD (k+1) 0:Nat)<=ae (ys.getD k 0:Nat)):∃ p q,ptL xs ys k=[ys.getD k 0,p,q,ys.getD (k+1) 0]/\Down4 (ys.getD k 0) p q (ys.getD (k+1) 0):=by
 have f:=h.step d;have g:=aq (h.node k (by omega))
 have j:=aq (h.node (k+1) d);obtain⟨a,b⟩:=iD (m:=xs.getD (k+1) 0 - xs.getD k 0) (by omega) (by omega)
 exact⟨_,_,rfl,IP a b (gK h c k) (gK h c (k+1)) (aN h c (by omega)) (aN h c d) e⟩
theorem yB {kind:Int} {xs:List Int} {ys:List Nat} {x:Int} {k D K:Nat} {i:Int} (e:K=1074) (h:OkT kind xs ys) (b:∀ i<ys.length,U64 (ys.getD i 0:Nat)) (a:Inside xs x k D i):linV ys k D i=overG (eJ (D:Int) i (uI K (ys.getD k 0)) (uI K (ys.getD (k+1) 0))) D:=by
 have c:=a.lt;have d:=eo h a;have:=a.lo;have:=a.hi';exact mL e (aN h b (by omega)) (aN h b c) (by omega) (by omega) d.2
theorem qH {kind x:Int} {xs:List Int} {ys:List Nat} {k V:Nat} (h:OkT kind xs ys) (o:∀ i<ys.length,U64 (ys.getD i 0:Nat)) (u:k<xs.length) (w:AtR xs ys kind x k V) (s:k+1<xs.length->ae (ys.getD k 0:Nat)<=ae (ys.getD (k+1) 0:Nat)) :
  U64 (V:Nat)/\ah (V:Nat)=false/\ae (ys.getD k 0:Nat)<=ae (V:Nat)/\(k+1<xs.length->ae (V:Nat)<=ae (ys.getD (k+1) 0:Nat)):=by
 have l:=aN h o u;cases w with
 | node kind x k v=>exact⟨aU l.lt,l.nn.nan,Int.le_refl _,s⟩
 | flat x k v=>exact⟨aU l.lt,l.nn.nan,Int.le_refl _,s⟩
 | lin x k D i j=>
  have r:=eo h j;have n:=j.lt;have a:=j.lo;have b:=j.hi';rw [yB rfl h o j];obtain⟨c,d,e⟩:=cA (eJ (D:Int) i (uI 1074 (ys.getD k 0)) (uI 1074 (ys.getD (k+1) 0))) D;obtain⟨f,g⟩:=xM (K:=1074) rfl l (aN h o n) (show 0<=i by omega) (show i<=(D:Int) by omega) r.1 (s n)
  rw [e];exact⟨c,d,f,fun _=>g⟩
 | cub x k D i j=>
  have r:=eo h j;have n:=j.lt;have a:=j.lo;have b:=j.hi';obtain⟨p,q,t,m⟩:=JB h o n (s n);rw [t,te (K:=1074) rfl m.n0 m.n1 m.n2 m.n3 (by omega) (by omega) r.2]
  obtain⟨c,d,e⟩:=cA (eD (D:Int) i (uI 1074 (ys.getD k 0)) (uI 1074 p) (uI 1074 q) (uI 1074 (ys.getD (k+1) 0))) (D*D*D);obtain⟨f,g⟩:=xN (K:=1074) rfl m (show 0<=i by omega) (show i<=(D:Int) by omega) r.1
  rw [e];exact⟨c,d,f,fun _=>g⟩
theorem lT {kind x:Int} {xs:List Int} {ys:List Nat} {k V:Nat} (h:OkT kind xs ys) (o:∀ i<ys.length,U64 (ys.getD i 0:Nat)) (u:k<xs.length) (w:AtR xs ys kind x k V) (s:k+1<xs.length->ae (ys.getD (k+1) 0:Nat)<=ae (ys.getD k 0:Nat)) :
  U64 (V:Nat)/\ah (V:Nat)=false/\ae (V:Nat)<=ae (ys.getD k 0:Nat)/\(k+1<xs.length->ae (ys.getD (k+1) 0:Nat)<=ae (V:Nat)):=by
 have l:=aN h o u;cases w with
 | node kind x k v=>exact⟨aU l.lt,l.nn.nan,Int.le_refl _,s⟩
 | flat x k v=>exact⟨aU l.lt,l.nn.nan,Int.le_refl _,s⟩
 | lin x k D i j=>
  have r:=eo h j;have n:=j.lt;have a:=j.lo;have b:=j.hi';rw [yB rfl h o j];obtain⟨c,d,e⟩:=cA (eJ (D:Int) i (uI 1074 (ys.getD k 0)) (uI 1074 (ys.getD (k+1) 0))) D;obtain⟨f,g⟩:=sd (K:=1074) rfl l (aN h o n) (show 0<=i by omega) (show i<=(D:Int) by omega) r.1 (s n)
  rw [e];exact⟨c,d,g,fun _=>f⟩
 | cub x k D i j=>
  have r:=eo h j;have n:=j.lt;have a:=j.lo;have b:=j.hi';obtain⟨p,q,t,m⟩:=yA h o n (s n);rw [t,te (K:=1074) rfl m.n0 m.n1 m.n2 m.n3 (by omega) (by omega) r.2]
  obtain⟨c,d,e⟩:=cA (eD (D:Int) i (uI 1074 (ys.getD k 0)) (uI 1074 p) (uI 1074 q) (uI 1074 (ys.getD (k+1) 0))) (D*D*D);obtain⟨f,g⟩:=sf (K:=1074) rfl m (show 0<=i by omega) (show i<=(D:Int) by omega) r.1
  rw [e];exact⟨c,d,g,fun _=>f⟩
theorem Dp {x:Nat} (h:NN x):ae (x:Nat)=sgZ (sB x) (x % 9223372036854775808):=by
 have b:=h.nan;have c:=h.lt;unfold ae;rw [b,if_neg (by decide)]
 unfold sgB szI sgZ sB
 by_cases a:(9223372036854775808:Int)<=(x:Int)
 ·rw [show x / 9223372036854775808 % 2=1 by omega]
  simp [a]
 ·rw [show x / 9223372036854775808 % 2=0 by omega]
  simp [a]
structure Opp (x y:Nat):Prop where
 nx:NN x
 ny:NN y
 rk:ae (y:Nat)= -ae (x:Nat)
theorem Opp.sz {x y:Nat} (h:Opp x y):y % 9223372036854775808=x % 9223372036854775808/\(x % 9223372036854775808≠0->sB y=!sB x):=by
 have e:=h.rk;rw [Dp h.nx,Dp h.ny] at e
 unfold sgZ at e
 cases b:sB x<;>cases a:sB y<;>rw [b,a] at e<;>simp at e<;>refine⟨by omega,fun c=>?_⟩
 ·omega
 ·rfl
 ·rfl
 ·omega
theorem Opp.symm {x y:Nat} (h:Opp x y):Opp y x:=⟨h.ny,h.nx,by have:=h.rk;omega⟩
theorem Opp.num {x y:Nat} (h:Opp x y) (a:af x):af y:=by unfold af at *;rw [h.sz.1];exact a
theorem Opp.vI {x y:Nat} (h:Opp x y):vI y= -vI x:=by
 obtain⟨c,b⟩:=h.sz;rw [ko,ko];unfold aV;rw [c]
 by_cases a:x % 9223372036854775808=0
 ·rw [a,bp];unfold sgZ;split<;>split<;>rfl
 ·rw [b a];cases sB x<;>simp [sgZ]
theorem Fl {v a b:Int} (d:ah v=false) (c:ah a=false) (e:ah b=false):ah (dC v a b)=false/\ae (dC v a b)=max (min (ae a) (ae b)) (min (max (ae a) (ae b)) (ae v)):=by
 unfold dC;rw [aC e c,aC d e,aC c d,aC c e,aC d c,aC e d];simp only [decide_eq_true_eq]
 (repeat' split)<;>exact⟨by assumption,by omega⟩
noncomputable def lnW (y:Nat):Nat:=if y<18446744073709551616 then cn (lnF y) else 0
noncomputable def exW (y:Nat):Nat:=if y<18446744073709551616 then cn (lQ y) else 0
theorem Pm (y:Nat):lnW y<18446744073709551616:=by
 unfold lnW
 split
 ·rename_i h;exact (jl h).lt
 ·decide
theorem JC (y:Nat):exW y<18446744073709551616:=by
 unfold exW
 split
 ·rename_i h;cases a:ah (y:Int) with
  | true=>rw [(ce h).nan a,lu];omega
  | false=>
   obtain⟨z,e,b⟩:=(ce h).num a;rw [e,ar];omega
 ·decide
theorem jQ {y:Nat} (h:NumW y) (c:ltB 0 (y:Nat)=true):NumW (lnW y):=by
 obtain⟨d,f⟩:=iC h.lt c;have a:=jl h.lt;obtain⟨z,e,g⟩:=a.fin h.nb f d;have b:=a.lt;unfold lnW;rw [if_pos h.lt];rw [e,ar] at b ⊢
 exact⟨b,g⟩
theorem JD {xs:List Int} {ys:List Nat} {x:Int} {k D:Nat} {i:Int} (h:OkT 4 xs ys) (n:∀ i<ys.length,U64 (ys.getD i 0:Nat)) (f:Inside xs x k D i) :
  ah (logV lnW exW ys k D i:Nat)=false/\logV lnW exW ys k D i<18446744073709551616/\min (ae (ys.getD k 0:Nat)) (ae (ys.getD (k+1) 0:Nat))<=ae (logV lnW exW ys k D i:Nat)/\ae (logV lnW exW ys k D i:Nat)<=max (ae (ys.getD k 0:Nat)) (ae (ys.getD (k+1) 0:Nat)):=by
 have p:=f.lt;have B:=eo h f;have a:=f.lo;have b:=f.hi';have j:=aN h n (show k<xs.length by omega)
 have g:=aN h n p;have s:=(aq (h.node k (by omega))).2.2.2.2 rfl
 have z:=(aq (h.node (k+1) p)).2.2.2.2 rfl;have u:=jQ j s;have r:=jQ g z;unfold logV;rw [mL (K:=1074) rfl u r (by omega) (by omega) B.2]
 obtain⟨w,y,_⟩:=cA (eJ (D:Int) i (uI 1074 (lnW (ys.getD k 0))) (uI 1074 (lnW (ys.getD (k+1) 0)))) D;generalize overG (eJ (D:Int) i (uI 1074 (lnW (ys.getD k 0))) (uI 1074 (lnW (ys.getD (k+1) 0)))) D=o at *
 have c:o<18446744073709551616:=by have:=w.2;omega
 obtain⟨e,C,l⟩:=(ce c).num y;have A:exW o=e:=by unfold exW;rw [if_pos c,C];rfl
 rw [A];have d:e<18446744073709551616:=by omega
 have t:=(kK l).2.2;obtain⟨q,m⟩:=Fl (v:=(e:Nat)) t j.nn.nan g.nn.nan;rw [<- fC d j.lt g.lt] at q m
 exact⟨q,jg d j.lt g.lt,by rw [m];omega,by rw [m];omega⟩
theorem vA (x:Int) (l f:Option Addr) (p q cx z o cy n k D:Nat) (i:Int) (xs:List Int) (ys:List Nat) (w:World) (h:OkT 4 xs ys) (s:∀ i<ys.length,U64 (ys.getD i 0:Nat)) (hn:xs.length=n) (g:FindO 4 xs ys x (k:Int) 0) (d:Inside xs x k D i) (H:TSrc w l f p q z o xs ys) :
  Calls Tryz.prog 107 #[.agg #[.int .i64 4,.slice l n cx,.slice f n cy],.int .i64 x] w fun e F=>e=.returned (.tuple #[.int .u64 (logV lnW exW ys k D i:Int),.int .i64 0])/\Below w.heap.size w F:=by
 have u:=d.lt;have y:=aN h s (show k<xs.length by omega)
 have v:=aN h s u;have I:=eo h d;have a:=d.lo;have b:=d.hi';have C:=(aq (h.node k (by omega))).2.2.2.2 rfl
 have G:=(aq (h.node (k+1) u)).2.2.2.2 rfl;have E:=jQ y C;have B:=jQ v G;have r:=(cA (eJ (D:Int) i (uI 1074 (lnW (ys.getD k 0))) (uI 1074 (lnW (ys.getD (k+1) 0)))) D).1;rw [<- mL (K:=1074) rfl E B (by omega) (by omega) I.2] at r
 refine yz lnW exW x l f p q cx z o cy n k D i xs ys w h hn g d H Pm JC (fun j A m=>?_) (fun m=>?_)
 ·have t:ys.getD j 0<18446744073709551616:=by
   rcases A with rfl | rfl
   ·exact y.lt
   ·exact v.lt
  have:=(jl t).doc m;unfold lnW;rw [if_pos t];exact this
 ·have c:aR (wAt [(D:Int) - i,i] [lnW (ys.getD k 0),lnW (ys.getD (k+1) 0)] 2) D<18446744073709551616:=by have:=r.2;omega
  have:=(ce c).doc m;have e:exW (aR (wAt [(D:Int) - i,i] [lnW (ys.getD k 0),lnW (ys.getD (k+1) 0)] 2) D)=cn (lQ (aR (wAt [(D:Int) - i,i] [lnW (ys.getD k 0),lnW (ys.getD (k+1) 0)] 2) D)):=by unfold exW;rw [if_pos c]
  rw [e];exact this
end Go.Proofs.YtfdddijdjpijbaaGreat
