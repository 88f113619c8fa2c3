/-  -/
import Derived.Test.YtfdddijdjpijbaaGreatHbl
import Derived.Test.YtfdddijdjpijbaaGreatHba
set_option maxHeartbeats 6400000
set_option maxRecDepth 20000
namespace Go.Proofs.YtfdddijdjpijbaaGreat
open Go.RowKit
def LRd (w:World) (B:Nat) (c:Value) (a b k:Nat) (y0 y1:Nat):Prop:=
 w.cell? ⟨B,2,none⟩=some c/\w.cell? ⟨a,b+k,none⟩=some (.int .u64 (y0:Int))/\w.cell? ⟨a,b+(k+1),none⟩=some (.int .u64 (y1:Int))
theorem LRd.below {w d:World} {B s:Nat} {e:Value} {a b k:Nat} {y0 y1:Nat} (h:LRd w B e a b k y0 y1) (c:Below s w d) (g:B<s) (f:a<s):LRd d B e a b k y0 y1:=
 ⟨(c.cell (p:=⟨B,2,none⟩) g).trans h.1,(c.cell (p:=⟨a,b+k,none⟩) f).trans h.2.1,(c.cell (p:=⟨a,b+(k+1),none⟩) f).trans h.2.2⟩
theorem LRd.alloc {w:World} {B:Nat} {b:Value} {a c k:Nat} {y0 y1:Nat} (h:LRd w B b a c k y0 y1) (e:B<w.heap.size) (d:a<w.heap.size) (o:Obj):LRd (w.alloc o) B b a c k y0 y1:=
 h.below ((Below.refl w.heap.size w).alloc (Nat.le_refl _) o) e d
abbrev oW (a b:Int):Obj:=.cells #[.int .i64 a,.int .i64 b] 3
abbrev oL (a b:Nat):Obj:=.cells #[.int .u64 (a:Int),.int .u64 (b:Int)] 41
theorem lX (w:World) (a b:Nat):VSrc (w.alloc (oL a b)) (some ⟨w.heap.size,0,none⟩) w.heap.size 0 2 (yV [a,b]):=
 ⟨fun _=>rfl,fun _=>by simp,fun j c=>by
  rcases (show j=0\/j=1 by omega) with rfl | rfl
  ·simp [yV]
  ·simp [yV]⟩
theorem VSrc.alloc {w:World} {p:Option Addr} {b off n:Nat} {f:Nat->Value} (h:VSrc w p b off n f) (o:Obj):VSrc (w.alloc o) p b off n f:=h.below ((Below.refl _ w).alloc (Nat.le_refl _) o)
theorem VSrc.drew {w:World} {p:Option Addr} {b off n:Nat} {f:Nat->Value} (h:VSrc w p b off n f):VSrc w.drew p b off n f:=⟨h.at_,h.lt,h.cell⟩
theorem PP (x:Int) (N Q cx g h cy n k D:Nat) (C x1 i:Int) (y0 y1 t u ev:Nat) (w:World)
  (hR:∀ v,TBox w 4 (.slice (some ⟨N,Q,none⟩) n cx) (.slice (some ⟨g,h,none⟩) n cy) v->ARd v w.heap.size 4 (.slice (some ⟨N,Q,none⟩) n cx) (.slice (some ⟨g,h,none⟩) n cy) N Q g h k C x1 y0 y1)
  (hk:k+1<n) (hn:n<=256) (h0:0<=C) (h1:x1<=109572) (hD:x1 - C=(D:Int)) (hi:x - C=i) (cm:0<i) (cp:i<(D:Int)) (bz:y0<18446744073709551616) (bk:y1<18446744073709551616) (ab:t<18446744073709551616) (bs:u<18446744073709551616) (bc:ev<18446744073709551616)
  (bv:Hid (∀ p,Calls Tryz.prog 148 #[.int .u64 (y0:Int)] p fun e v=>e=.returned (.int .u64 (t:Int))/\Below p.heap.size p v))
  (S:Hid (∀ p,Calls Tryz.prog 148 #[.int .u64 (y1:Int)] p fun e v=>e=.returned (.int .u64 (u:Int))/\Below p.heap.size p v))
  (cd:Hid (∀ p,Calls Tryz.prog 64 #[.int .u64 (aQ (wAt [(D:Int) - i,i] [t,u] 2) D:Int)] p fun e v=>e=.returned (.int .u64 (ev:Int))/\Below p.heap.size p v))
  (H:Hid (lK w 4 (.slice (some ⟨N,Q,none⟩) n cx) (.slice (some ⟨g,h,none⟩) n cy) x (k:Int) 0)) :
  Calls Tryz.prog 107 #[.agg #[.int .i64 4,.slice (some ⟨N,Q,none⟩) n cx,.slice (some ⟨g,h,none⟩) n cy],.int .i64 x] w fun e v=>e=.returned (.tuple #[.int .u64 (heldN ev y0 y1:Int),.int .i64 0])/\Below w.heap.size w v:=by
 have HB:=hideS (bU w 4 (.slice (some ⟨N,Q,none⟩) n cx) (.slice (some ⟨g,h,none⟩) n cy));unfold lK at H
 have HR:=hideS hR;have cc:=hideS fun p=>mP ev y0 y1 p bc bz bk
 have B:Hid (∀ p I G,VSrc p (some ⟨I,0,none⟩) I 0 2 (xV [(D:Int) - i,i])->VSrc p (some ⟨G,0,none⟩) G 0 2 (yV [t,u])->Calls Tryz.prog 146 #[.slice (some ⟨I,0,none⟩) 2 2,.slice (some ⟨G,0,none⟩) 2 2,.int .i64 (D:Int)] p fun e v=>e=.returned (.int .u64 (aQ (wAt [(D:Int) - i,i] [t,u] 2) D:Int))/\Below p.heap.size p v):=fun p I G s1 s2=>
  jq I 0 2 G 0 2 2 D [(D:Int) - i,i] [t,u] p s1 s2 (by omega) (by omega) (fun j hj=>by
   rcases (show j=0\/j=1 by omega) with rfl | rfl
   ·show -9007199254740992<=(D:Int) - i/\(D:Int) - i<=_;omega
   ·show -9007199254740992<=i/\i<=_;omega) (fun j hj=>by
   rcases (show j=0\/j=1 by omega) with rfl | rfl
   ·exact ab
   ·exact bs) (by omega) (by omega)
 generalize aQ (wAt [(D:Int) - i,i] [t,u] 2) D=R at *
 generalize heldN ev y0 y1=V at *
 have f1:IntKind.i64.wrap ((k:Int)+1)=(k:Int)+1:=by rw [IntKind.wrap_i64];omega
 have f2:IntKind.i64.wrap (x1 - C)=x1 - C:=by rw [IntKind.wrap_i64];omega
 have f3:IntKind.i64.wrap (x - C)=x - C:=by rw [IntKind.wrap_i64];omega
 have I:(0:Int)<=(k:Int)+1:=by omega
 have G:(k:Int)+1<(n:Int):=by omega
 have g3:(0:Int)<=(k:Int):=by omega
 have g4:(k:Int)<(n:Int):=by omega
 have hx:(C==x)=false:=beq_false_of_ne (by omega)
 have cl:(D:Int)<=109572:=by omega
 clear hR bz bk ab bs bc
 go_enter Tryz.func107,Tryz.ntmps107
 go_wp2_with fail
 refine (H.out _ HB.out.bl).mono ?_
 rintro e w1 ⟨rfl,al⟩;have P:=hideS (HB.out.step al);clear al;have hA:=HR.out w1 P.out;obtain⟨t0,t1,t2,a0,a1,b0,b1,ly⟩:=hA
 go_wp2_with fail
 go_quiet (fail)
 obtain⟨f,M⟩:∃ f,w1.drewN nq=f:=⟨_,rfl⟩;rw [M];have T:Hid (TBox w 4 (.slice (some ⟨N,Q,none⟩) n cx) (.slice (some ⟨g,h,none⟩) n cy) f):=by show TBox _ _ _ _ _;rw [<- M];exact P.out.drewN nq
 clear M t0 t1 t2 a0 a1 b0 b1 ly P;obtain⟨t0,t1,t2,a0,a1,b0,b1,ly⟩:=HR.out f T.out;have b:Hid (w.heap.size<f.heap.size/\g<f.heap.size):=⟨T.out.lt,ly⟩;have K0:Hid (LRd f w.heap.size (.slice (some ⟨g,h,none⟩) n cy) g h k y0 y1):=⟨t2,b0,b1⟩;have bi:Hid (∀ o,LRd (f.alloc o) w.heap.size (.slice (some ⟨g,h,none⟩) n cy) g h k y0 y1):=fun o=>K0.out.alloc b.out.1 b.out.2 o
 have Bq:Hid (Below w.heap.size w f):=T.out.bl;have bh:=hideS (bv.out f.drew);have bb:=hideS (bv.out (f.alloc (oW ((D:Int) - i) i)).drew);have F:Hid ((f.alloc (oW ((D:Int) - i) i)).heap.size=f.heap.size+1):=by show _=_;simp
 clear ly f2 f1 I G;have cf:Hid (IntKind.i64.wrap ((k:Int)+1)=(k:Int)+1/\(0:Int)<=(k:Int)+1/\(k:Int)+1<(n:Int)/\IntKind.i64.wrap ((D:Int) - i)=(D:Int) - i):=⟨by rw [IntKind.wrap_i64];omega,by omega,by omega,by rw [IntKind.wrap_i64];omega⟩
 go_wp2_with fail
 obtain⟨f1,I,G,f5⟩:=cf.out
 go_region_held3 (fun x=>x.cell? ⟨w.heap.size,2,none⟩=some (.slice (some ⟨g,h,none⟩) n cy)/\x.cell? ⟨g,h+k,none⟩=some (.int .u64 (y0:Int))/\x.cell? ⟨g,h+(k+1),none⟩=some (.int .u64 (y1:Int))) (first | exact K0.out | exact bi.out _ | exact Z.out | exact br.out _ | exact X.out | exact s.out _ | exact A.out _ _ | exact K5.out | exact K6.out | go_keep) (first
  | ((go_at_call 148;(with_reducible refine bh.out.mono ?_);rintro e z ⟨rfl,m⟩;have O:=hideS (Bq.out.drew.trans (m.mono Bq.out.size));have Z:=hideS (LRd.below (w:=f.drew) K0.out m b.out.1 b.out.2);have y:Hid (f.heap.size<=z.heap.size):=m.size;have br:Hid (∀ o,LRd (z.alloc o) w.heap.size (.slice (some ⟨g,h,none⟩) n cy) g h k y0 y1):=(fun o=>Z.out.alloc (Nat.lt_of_lt_of_le b.out.1 y.out) (Nat.lt_of_lt_of_le b.out.2 y.out) o);have ad:=hideS (S.out z);have ai:=hideS (S.out (z.alloc (oW ((D:Int) - i) i)));clear m))
  | ((go_at_call 148;(with_reducible refine bb.out.mono ?_);rintro e z ⟨rfl,m⟩;have O:=hideS ((Bq.out.alloc Bq.out.size (oW ((D:Int) - i) i)).drew.trans (m.mono (by have:=Bq.out.size;show w.heap.size<=(f.alloc (oW ((D:Int) - i) i)).heap.size;rw [F.out];omega)));have Z:=hideS (LRd.below (w:=(f.alloc (oW ((D:Int) - i) i)).drew) (bi.out _) m (show w.heap.size<(f.alloc (oW ((D:Int) - i) i)).heap.size by rw [F.out];have:=b.out.1;omega) (show g<(f.alloc (oW ((D:Int) - i) i)).heap.size by rw [F.out];have:=b.out.2;omega));have y:Hid (f.heap.size<=z.heap.size):=(Nat.le_trans (show f.heap.size<=(f.alloc (oW ((D:Int) - i) i)).heap.size by rw [F.out];omega) m.size);have S3:=hideS ((lL f ((D:Int) - i) i).drew.below m);have ca:=hideS (S.out z);clear m))
  | ((go_at_call 148;(with_reducible refine ad.out.mono ?_);rintro e d ⟨rfl,c⟩;have E:=hideS (O.out.trans (c.mono O.out.size));have X:=hideS (Z.out.below c (Nat.lt_of_lt_of_le b.out.1 y.out) (Nat.lt_of_lt_of_le b.out.2 y.out));have l:Hid (f.heap.size<=d.heap.size):=(Nat.le_trans y.out c.size);have s:Hid (∀ o,LRd (d.alloc o) w.heap.size (.slice (some ⟨g,h,none⟩) n cy) g h k y0 y1):=(fun o=>X.out.alloc (Nat.lt_of_lt_of_le b.out.1 l.out) (Nat.lt_of_lt_of_le b.out.2 l.out) o);have A:Hid (∀ o r,LRd ((d.alloc o).alloc r) w.heap.size (.slice (some ⟨g,h,none⟩) n cy) g h k y0 y1):=(fun o r=>(s.out o).alloc (by simp;have:=l.out;have:=b.out.1;omega) (by simp;have:=l.out;have:=b.out.2;omega) r);have J:=hideS (B.out ((d.alloc (oW ((D:Int) - i) i)).alloc (oL t u)) d.heap.size (d.alloc (oW ((D:Int) - i) i)).heap.size ((lL d _ _).alloc _) (lX _ _ _));have K:=hideS (B.out ((d.alloc (oL t u)).alloc (oW ((D:Int) - i) i)) (d.alloc (oL t u)).heap.size d.heap.size (lL _ _ _) ((lX d _ _).alloc _));have Y:Hid ((d.alloc (oW ((D:Int) - i) i)).heap.size=d.heap.size+1/\(d.alloc (oL t u)).heap.size=d.heap.size+1):=⟨by simp,by simp⟩;rw [Y.out.1] at J;rw [Y.out.2] at K;have q:Hid (∀ o r,Below w.heap.size w ((d.alloc o).alloc r)):=(fun o r=>(E.out.alloc E.out.size o).alloc (by simp;have:=E.out.size;omega) r);have ci:Hid (∀ o r,f.heap.size<=((d.alloc o).alloc r).heap.size):=(fun o r=>by simp;have:=l.out;omega);clear c))
  | ((go_at_call 148;(with_reducible refine ai.out.mono ?_);rintro e d ⟨rfl,c⟩;have U:Hid ((z.alloc (oW ((D:Int) - i) i)).heap.size=z.heap.size+1):=(by show _=_;simp);have am:Hid (Below w.heap.size w (z.alloc (oW ((D:Int) - i) i))):=(O.out.alloc O.out.size (oW ((D:Int) - i) i));have E:=hideS (am.out.trans (c.mono am.out.size));have X:=hideS ((br.out _).below c (by rw [U.out];have:=y.out;have:=b.out.1;omega) (by rw [U.out];have:=y.out;have:=b.out.2;omega));have l:Hid (f.heap.size<=d.heap.size):=(Nat.le_trans (Nat.le_trans y.out (by rw [U.out];omega)) c.size);have s:Hid (∀ o,LRd (d.alloc o) w.heap.size (.slice (some ⟨g,h,none⟩) n cy) g h k y0 y1):=(fun o=>X.out.alloc (Nat.lt_of_lt_of_le b.out.1 l.out) (Nat.lt_of_lt_of_le b.out.2 l.out) o);have A:Hid (∀ o r,LRd ((d.alloc o).alloc r) w.heap.size (.slice (some ⟨g,h,none⟩) n cy) g h k y0 y1):=(fun o r=>(s.out o).alloc (by simp;have:=l.out;have:=b.out.1;omega) (by simp;have:=l.out;have:=b.out.2;omega) r);have ba:=hideS (B.out (d.alloc (oL t u)) z.heap.size d.heap.size (((lL z _ _).below c).alloc _) (lX d _ _));have q:Hid (∀ o,Below w.heap.size w (d.alloc o)):=(fun o=>E.out.alloc E.out.size o);clear c))
  | ((go_at_call 148;(with_reducible refine ca.out.mono ?_);rintro e d ⟨rfl,c⟩;have E:=hideS (O.out.trans (c.mono O.out.size));have X:=hideS (Z.out.below c (Nat.lt_of_lt_of_le b.out.1 y.out) (Nat.lt_of_lt_of_le b.out.2 y.out));have l:Hid (f.heap.size<=d.heap.size):=(Nat.le_trans y.out c.size);have s:Hid (∀ o,LRd (d.alloc o) w.heap.size (.slice (some ⟨g,h,none⟩) n cy) g h k y0 y1):=(fun o=>X.out.alloc (Nat.lt_of_lt_of_le b.out.1 l.out) (Nat.lt_of_lt_of_le b.out.2 l.out) o);have A:Hid (∀ o r,LRd ((d.alloc o).alloc r) w.heap.size (.slice (some ⟨g,h,none⟩) n cy) g h k y0 y1):=(fun o r=>(s.out o).alloc (by simp;have:=l.out;have:=b.out.1;omega) (by simp;have:=l.out;have:=b.out.2;omega) r);have bo:=hideS (B.out (d.alloc (oL t u)) f.heap.size d.heap.size ((S3.out.below c).alloc _) (lX d _ _));have q:Hid (∀ o,Below w.heap.size w (d.alloc o)):=(fun o=>E.out.alloc E.out.size o);clear c))
  | ((go_at_call 146;(with_reducible refine bo.out.mono ?_);rintro e L ⟨rfl,a⟩;have B5:=hideS ((q.out _).trans (a.mono (q.out _).size));have K5:=hideS ((s.out _).below a (by simp;have:=l.out;have:=b.out.1;omega) (by simp;have:=l.out;have:=b.out.2;omega));have z5:Hid (f.heap.size<=L.heap.size):=(Nat.le_trans (by simp;have:=l.out;omega) a.size);clear a))
  | ((go_at_call 146;(with_reducible refine ba.out.mono ?_);rintro e L ⟨rfl,a⟩;have B5:=hideS ((q.out _).trans (a.mono (q.out _).size));have K5:=hideS ((s.out _).below a (by simp;have:=l.out;have:=b.out.1;omega) (by simp;have:=l.out;have:=b.out.2;omega));have z5:Hid (f.heap.size<=L.heap.size):=(Nat.le_trans (by simp;have:=l.out;omega) a.size);clear a))
  | ((go_at_call 146;(with_reducible refine J.out.mono ?_);rintro e L ⟨rfl,a⟩;have B5:=hideS ((q.out _ _).trans (a.mono (q.out _ _).size));have K5:=hideS ((A.out _ _).below a (by simp;have:=l.out;have:=b.out.1;omega) (by simp;have:=l.out;have:=b.out.2;omega));have z5:Hid (f.heap.size<=L.heap.size):=(Nat.le_trans (by simp;have:=l.out;omega) a.size);clear a))
  | ((go_at_call 146;(with_reducible refine K.out.mono ?_);rintro e L ⟨rfl,a⟩;have B5:=hideS ((q.out _ _).trans (a.mono (q.out _ _).size));have K5:=hideS ((A.out _ _).below a (by simp;have:=l.out;have:=b.out.1;omega) (by simp;have:=l.out;have:=b.out.2;omega));have z5:Hid (f.heap.size<=L.heap.size):=(Nat.le_trans (by simp;have:=l.out;omega) a.size);clear a))
  | ((go_at_call 64;refine (cd.out _).mono ?_;rintro e w6 ⟨rfl,W⟩;have B6:=hideS (B5.out.trans (W.mono B5.out.size));have K6:=hideS (K5.out.below W (Nat.lt_of_lt_of_le b.out.1 z5.out) (Nat.lt_of_lt_of_le b.out.2 z5.out));clear W)))
 all_goals
  clear t0 t1 t2 a0 a1 b0 b1;obtain⟨u2,u0,u1⟩:=K6.out
  go_wp2_with fail
  go_quiet ((go_at_call 149;exact Calls.quiet_of_same (cc.out _)))
  go_wp2_with fail
  go_ret2
  exact⟨rfl,B6.out.os,B6.out.tape,B6.out.output,B6.out.size,B6.out.block⟩
def logV (a ex:Nat->Nat) (ys:List Nat) (k D:Nat) (i:Int):Nat:=heldN (ex (aQ (wAt [(D:Int) - i,i] [a (ys.getD k 0),a (ys.getD (k+1) 0)] 2) D)) (ys.getD k 0) (ys.getD (k+1) 0)
theorem yX (c ex:Nat->Nat) (x:Int) (p o:Option Addr) (z v cx t r cy n k D:Nat) (i:Int) (xs:List Int) (ys:List Nat) (w:World) (h:OkT 4 xs ys) (hn:xs.length=n) (C:FindO 4 xs ys x (k:Int) 0) (l:Inside xs x k D i) (d:TSrc w p o z v t r xs ys)
  (m:∀ y,c y<18446744073709551616) (s:∀ y,ex y<18446744073709551616)
  (A:∀ j,j=k\/j=k+1->∀ b,Calls Tryz.prog 148 #[.int .u64 (ys.getD j 0:Nat)] b fun e g=>e=.returned (.int .u64 (c (ys.getD j 0):Nat))/\Below b.heap.size b g)
  (I:∀ b,Calls Tryz.prog 64 #[.int .u64 (aQ (wAt [(D:Int) - i,i] [c (ys.getD k 0),c (ys.getD (k+1) 0)] 2) D:Nat)] b fun e g=>e=.returned (.int .u64 (ex (aQ (wAt [(D:Int) - i,i] [c (ys.getD k 0),c (ys.getD (k+1) 0)] 2) D):Nat))/\Below b.heap.size b g) :
  Calls Tryz.prog 107 #[.agg #[.int .i64 4,.slice p n cx,.slice o n cy],.int .i64 x] w fun e g=>e=.returned (.tuple #[.int .u64 (logV c ex ys k D i:Int),.int .i64 0])/\Below w.heap.size w g:=by
 have u:=h.len;have F:=h.hi;have B:=l.lt;have H:lK w 4 (.slice p n cx) (.slice o n cy) x (k:Int) 0:=fun b G=>by
  have:=cM 4 x k 0 p o z v cx t r cy xs ys b C (d.below G);rw [u,hn] at this
  exact this
 obtain rfl:=d.x.at_ (by omega)
 obtain rfl:=d.y.at_ (by omega)
 have E:=ap (h.node k (by omega))
 have J:=ap (h.node (k+1) (by omega))
 exact PP x z v cx t r cy n k D (xs.getD k 0) (xs.getD (k+1) 0) i (ys.getD k 0) (ys.getD (k+1) 0) (c (ys.getD k 0)) (c (ys.getD (k+1) 0)) _ w (fun g q=>by
   have a:=d.below q.bl;exact⟨q.t0,q.t1,q.t2,a.x.cell k (by omega),a.x.cell (k+1) (by omega),a.y.cell k (by omega),a.y.cell (k+1) (by omega),a.y.lt (by omega)⟩)
  (by omega) (by omega) E.1 J.2.1 l.hD l.hi l.lo l.hi' (by have:=(d.f k (by omega)).2;omega) (by have:=(d.f (k+1) (by omega)).2;omega) (m _) (m _) (s _) (A k (Or.inl rfl)) (A (k+1) (Or.inr rfl)) I H
inductive AtR (xs:List Int) (ys:List Nat):Int->Int->Nat->Nat->Prop
 | node (kind x:Int) (k:Nat) (h:xs.getD k 0=x):AtR xs ys kind x k (ys.getD k 0)
 | flat (x:Int) (k:Nat) (h:xs.getD k 0≠x):AtR xs ys 1 x k (ys.getD k 0)
 | lin (x:Int) (k D:Nat) (i:Int) (h:Inside xs x k D i):AtR xs ys 2 x k (linV ys k D i)
 | cub (x:Int) (k D:Nat) (i:Int) (h:Inside xs x k D i):AtR xs ys 3 x k (Bu (ptL xs ys k) D i)
theorem eH {kind:Int} {xs:List Int} {ys:List Nat} {x:Int} {k D:Nat} {i:Int} (h:OkT kind xs ys) (a:Inside xs x k D i):0<D/\(D:Int)<=109572:=by
 have c:=ap (h.node k (by have:=a.lt;omega))
 have b:=ap (h.node (k+1) a.lt);have:=a.hD;have:=a.lo;have:=a.hi';omega
theorem Kf {kind:Int} {xs:List Int} {ys:List Nat} {k:Nat} (h:OkT kind xs ys) (c:∀ i<ys.length,U64 (ys.getD i 0:Nat)) (d:k+1<xs.length) (e:ae (ys.getD k 0:Nat)<=ae (ys.getD (k+1) 0:Nat)):∃ p q,ptL xs ys k=[ys.getD k 0,p,q,ys.getD (k+1) 0]/\Up4 (ys.getD k 0) p q (ys.getD (k+1) 0):=by
 have f:=h.step d;have j:=ap (h.node k (by omega))
 have g:=ap (h.node (k+1) d);obtain⟨a,b⟩:=iK (m:=xs.getD (k+1) 0 - xs.getD k 0) (by omega) (by omega)
 exact⟨_,_,rfl,Px a b (gW h c k) (gW h c (k+1)) (aL h c (by omega)) (aL h c d) e⟩
theorem yY {kind:Int} {xs:List Int} {ys:List Nat} {k:Nat} (h:OkT kind xs ys) (c:∀ i<ys.length,U64 (ys.getD i 0:Nat)) (d:k+1<xs.length) (e:ae (ys.getD (k+1) 0:Nat)<=ae (ys.getD k 0:Nat)):∃ p q,ptL xs ys k=[ys.getD k 0,p,q,ys.getD (k+1) 0]/\Down4 (ys.getD k 0) p q (ys.getD (k+1) 0):=by
 have f:=h.step d;have j:=ap (h.node k (by omega))
 have g:=ap (h.node (k+1) d);obtain⟨a,b⟩:=iK (m:=xs.getD (k+1) 0 - xs.getD k 0) (by omega) (by omega)
 exact⟨_,_,rfl,Ju a b (gW h c k) (gW h c (k+1)) (aL h c (by omega)) (aL h c d) e⟩
theorem yZ {kind:Int} {xs:List Int} {ys:List Nat} {x:Int} {k D K:Nat} {i:Int} (c:K=1074) (h:OkT kind xs ys) (b:∀ i<ys.length,U64 (ys.getD i 0:Nat)) (a:Inside xs x k D i):linV ys k D i=overG (eX (D:Int) i (uI K (ys.getD k 0)) (uI K (ys.getD (k+1) 0))) D:=by
 have d:=a.lt;have e:=eH h a;have:=a.lo;have:=a.hi';exact mU c (aL h b (by omega)) (aL h b d) (by omega) (by omega) e.2
theorem qU {kind x:Int} {xs:List Int} {ys:List Nat} {k V:Nat} (h:OkT kind xs ys) (o:∀ i<ys.length,U64 (ys.getD i 0:Nat)) (w:k<xs.length) (v:AtR xs ys kind x k V) (s:k+1<xs.length->ae (ys.getD k 0:Nat)<=ae (ys.getD (k+1) 0:Nat)) :
  U64 (V:Nat)/\ah (V:Nat)=false/\ae (ys.getD k 0:Nat)<=ae (V:Nat)/\(k+1<xs.length->ae (V:Nat)<=ae (ys.getD (k+1) 0:Nat)):=by
 have m:=aL h o w;cases v with
 | node kind x k u=>exact⟨aU m.lt,m.nn.nan,Int.le_refl _,s⟩
 | flat x k u=>exact⟨aU m.lt,m.nn.nan,Int.le_refl _,s⟩
 | lin x k D i j=>
  have r:=eH h j;have n:=j.lt;have a:=j.lo;have b:=j.hi';rw [yZ rfl h o j];obtain⟨c,d,e⟩:=cD (eX (D:Int) i (uI 1074 (ys.getD k 0)) (uI 1074 (ys.getD (k+1) 0))) D;obtain⟨f,g⟩:=yo (K:=1074) rfl m (aL h o n) (show 0<=i by omega) (show i<=(D:Int) by omega) r.1 (s n)
  rw [e];exact⟨c,d,f,fun _=>g⟩
 | cub x k D i j=>
  have r:=eH h j;have n:=j.lt;have a:=j.lo;have b:=j.hi';obtain⟨p,q,t,l⟩:=Kf h o n (s n);rw [t,tG (K:=1074) rfl l.n0 l.n1 l.n2 l.n3 (by omega) (by omega) r.2]
  obtain⟨c,d,e⟩:=cD (eM (D:Int) i (uI 1074 (ys.getD k 0)) (uI 1074 p) (uI 1074 q) (uI 1074 (ys.getD (k+1) 0))) (D*D*D);obtain⟨f,g⟩:=yp (K:=1074) rfl l (show 0<=i by omega) (show i<=(D:Int) by omega) r.1
  rw [e];exact⟨c,d,f,fun _=>g⟩
theorem lY {kind x:Int} {xs:List Int} {ys:List Nat} {k V:Nat} (h:OkT kind xs ys) (o:∀ i<ys.length,U64 (ys.getD i 0:Nat)) (w:k<xs.length) (v:AtR xs ys kind x k V) (s:k+1<xs.length->ae (ys.getD (k+1) 0:Nat)<=ae (ys.getD k 0:Nat)) :
  U64 (V:Nat)/\ah (V:Nat)=false/\ae (V:Nat)<=ae (ys.getD k 0:Nat)/\(k+1<xs.length->ae (ys.getD (k+1) 0:Nat)<=ae (V:Nat)):=by
 have m:=aL h o w;cases v with
 | node kind x k u=>exact⟨aU m.lt,m.nn.nan,Int.le_refl _,s⟩
 | flat x k u=>exact⟨aU m.lt,m.nn.nan,Int.le_refl _,s⟩
 | lin x k D i j=>
  have r:=eH h j;have n:=j.lt;have a:=j.lo;have b:=j.hi';rw [yZ rfl h o j];obtain⟨c,d,e⟩:=cD (eX (D:Int) i (uI 1074 (ys.getD k 0)) (uI 1074 (ys.getD (k+1) 0))) D;obtain⟨f,g⟩:=sG (K:=1074) rfl m (aL h o n) (show 0<=i by omega) (show i<=(D:Int) by omega) r.1 (s n)
  rw [e];exact⟨c,d,g,fun _=>f⟩
 | cub x k D i j=>
  have r:=eH h j;have n:=j.lt;have a:=j.lo;have b:=j.hi';obtain⟨p,q,t,l⟩:=yY h o n (s n);rw [t,tG (K:=1074) rfl l.n0 l.n1 l.n2 l.n3 (by omega) (by omega) r.2]
  obtain⟨c,d,e⟩:=cD (eM (D:Int) i (uI 1074 (ys.getD k 0)) (uI 1074 p) (uI 1074 q) (uI 1074 (ys.getD (k+1) 0))) (D*D*D);obtain⟨f,g⟩:=sH (K:=1074) rfl l (show 0<=i by omega) (show i<=(D:Int) by omega) r.1
  rw [e];exact⟨c,d,g,fun _=>f⟩
theorem DS {x:Nat} (h:NN x):ae (x:Nat)=sgZ (sB x) (x % 9223372036854775808):=by
 have b:=h.nan;have c:=h.lt;unfold ae;rw [b,if_neg (by decide)]
 unfold sgB szI sgZ sB
 by_cases a:(9223372036854775808:Int)<=(x:Int)
 ·rw [show x / 9223372036854775808 % 2=1 by omega]
  simp [a]
 ·rw [show x / 9223372036854775808 % 2=0 by omega]
  simp [a]
structure Opp (x y:Nat):Prop where
 nx:NN x
 ny:NN y
 rk:ae (y:Nat)= -ae (x:Nat)
theorem Opp.sz {x y:Nat} (h:Opp x y):y % 9223372036854775808=x % 9223372036854775808/\(x % 9223372036854775808≠0->sB y=!sB x):=by
 have e:=h.rk;rw [DS h.nx,DS h.ny] at e
 unfold sgZ at e
 cases b:sB x<;>cases a:sB y<;>rw [b,a] at e<;>simp at e<;>refine⟨by omega,fun c=>?_⟩
 ·omega
 ·rfl
 ·rfl
 ·omega
theorem Opp.symm {x y:Nat} (h:Opp x y):Opp y x:=⟨h.ny,h.nx,by have:=h.rk;omega⟩
theorem Opp.num {x y:Nat} (h:Opp x y) (a:ag x):ag y:=by unfold ag at *;rw [h.sz.1];exact a
theorem Opp.vI {x y:Nat} (h:Opp x y):vI y= -vI x:=by
 obtain⟨c,b⟩:=h.sz;rw [kz,kz];unfold aV;rw [c]
 by_cases a:x % 9223372036854775808=0
 ·rw [a,bp];unfold sgZ;split<;>split<;>rfl
 ·rw [b a];cases sB x<;>simp [sgZ]
theorem FS {v a b:Int} (d:ah v=false) (e:ah a=false) (c:ah b=false):ah (dJ v a b)=false/\ae (dJ v a b)=max (min (ae a) (ae b)) (min (max (ae a) (ae b)) (ae v)):=by
 unfold dJ;rw [aA c e,aA d c,aA e d,aA e c,aA d e,aA c d];simp only [decide_eq_true_eq]
 (repeat' split)<;>exact⟨by assumption,by omega⟩
noncomputable def lnW (y:Nat):Nat:=if y<18446744073709551616 then cn (lnF y) else 0
noncomputable def exW (y:Nat):Nat:=if y<18446744073709551616 then cn (lV y) else 0
theorem PQ (y:Nat):lnW y<18446744073709551616:=by
 unfold lnW
 split
 ·rename_i h;exact (jv h).lt
 ·decide
theorem Kg (y:Nat):exW y<18446744073709551616:=by
 unfold exW
 split
 ·rename_i h;cases a:ah (y:Int) with
  | true=>rw [(ck h).nan a,lz];omega
  | false=>
   obtain⟨z,e,b⟩:=(ck h).num a;rw [e,ao];omega
 ·decide
theorem jZ {y:Nat} (h:NumW y) (d:ltB 0 (y:Nat)=true):NumW (lnW y):=by
 obtain⟨g,f⟩:=iJ h.lt d;have a:=jv h.lt;obtain⟨z,e,c⟩:=a.fin h.nb f g;have b:=a.lt;unfold lnW;rw [if_pos h.lt];rw [e,ao] at b ⊢
 exact⟨b,c⟩
theorem Kh {xs:List Int} {ys:List Nat} {x:Int} {k D:Nat} {i:Int} (h:OkT 4 xs ys) (n:∀ i<ys.length,U64 (ys.getD i 0:Nat)) (f:Inside xs x k D i) :
  ah (logV lnW exW ys k D i:Nat)=false/\logV lnW exW ys k D i<18446744073709551616/\min (ae (ys.getD k 0:Nat)) (ae (ys.getD (k+1) 0:Nat))<=ae (logV lnW exW ys k D i:Nat)/\ae (logV lnW exW ys k D i:Nat)<=max (ae (ys.getD k 0:Nat)) (ae (ys.getD (k+1) 0:Nat)):=by
 have q:=f.lt;have u:=eH h f;have a:=f.lo;have b:=f.hi';have j:=aL h n (show k<xs.length by omega)
 have g:=aL h n q;have r:=(ap (h.node k (by omega))).2.2.2.2 rfl
 have s:=(ap (h.node (k+1) q)).2.2.2.2 rfl;have C:=jZ j r;have t:=jZ g s;unfold logV;rw [mU (K:=1074) rfl C t (by omega) (by omega) u.2]
 obtain⟨A,y,_⟩:=cD (eX (D:Int) i (uI 1074 (lnW (ys.getD k 0))) (uI 1074 (lnW (ys.getD (k+1) 0)))) D;generalize overG (eX (D:Int) i (uI 1074 (lnW (ys.getD k 0))) (uI 1074 (lnW (ys.getD (k+1) 0)))) D=o at *
 have d:o<18446744073709551616:=by have:=A.2;omega
 obtain⟨e,z,m⟩:=(ck d).num y;have w:exW o=e:=by unfold exW;rw [if_pos d,z];rfl
 rw [w];have c:e<18446744073709551616:=by omega
 have B:=(kP m).2.2;obtain⟨p,l⟩:=FS (v:=(e:Nat)) B j.nn.nan g.nn.nan;rw [<- fO c j.lt g.lt] at p l
 exact⟨p,jo c j.lt g.lt,by rw [l];omega,by rw [l];omega⟩
theorem wg (x:Int) (m f:Option Addr) (z y cx r p cy n k D:Nat) (i:Int) (xs:List Int) (ys:List Nat) (w:World) (h:OkT 4 xs ys) (o:∀ i<ys.length,U64 (ys.getD i 0:Nat)) (hn:xs.length=n) (l:FindO 4 xs ys x (k:Int) 0) (c:Inside xs x k D i) (G:TSrc w m f z y r p xs ys) :
  Calls Tryz.prog 107 #[.agg #[.int .i64 4,.slice m n cx,.slice f n cy],.int .i64 x] w fun e H=>e=.returned (.tuple #[.int .u64 (logV lnW exW ys k D i:Int),.int .i64 0])/\Below w.heap.size w H:=by
 have u:=c.lt;have t:=aL h o (show k<xs.length by omega)
 have s:=aL h o u;have F:=eH h c;have a:=c.lo;have b:=c.hi';have B:=(ap (h.node k (by omega))).2.2.2.2 rfl
 have C:=(ap (h.node (k+1) u)).2.2.2.2 rfl;have I:=jZ t B;have E:=jZ s C;have v:=(cD (eX (D:Int) i (uI 1074 (lnW (ys.getD k 0))) (uI 1074 (lnW (ys.getD (k+1) 0)))) D).1;rw [<- mU (K:=1074) rfl I E (by omega) (by omega) F.2] at v
 refine yX lnW exW x m f z y cx r p cy n k D i xs ys w h hn l c G PQ Kg (fun j A g=>?_) (fun g=>?_)
 ·have q:ys.getD j 0<18446744073709551616:=by
   rcases A with rfl | rfl
   ·exact t.lt
   ·exact s.lt
  have:=(jv q).doc g;unfold lnW;rw [if_pos q];exact this
 ·have d:aQ (wAt [(D:Int) - i,i] [lnW (ys.getD k 0),lnW (ys.getD (k+1) 0)] 2) D<18446744073709551616:=by have:=v.2;omega
  have:=(ck d).doc g;have e:exW (aQ (wAt [(D:Int) - i,i] [lnW (ys.getD k 0),lnW (ys.getD (k+1) 0)] 2) D)=cn (lV (aQ (wAt [(D:Int) - i,i] [lnW (ys.getD k 0),lnW (ys.getD (k+1) 0)] 2) D)):=by unfold exW;rw [if_pos d]
  rw [e];exact this
end Go.Proofs.YtfdddijdjpijbaaGreat
