/-  -/
import Derived.Test.YtfdddijdjpijbaaGreatHbl
import Derived.Test.YtfdddijdjpijbaaGreatHba
set_option maxHeartbeats 6400000
set_option maxRecDepth 20000
namespace Go.Proofs.YtfdddijdjpijbaaGreat
open Go.RowKit
def LRd (w:World) (B:Nat) (c:Value) (a b k:Nat) (y0 y1:Nat):Prop:=
 w.cell? ⟨B,2,none⟩=some c/\w.cell? ⟨a,b+k,none⟩=some (.int .u64 (y0:Int))/\w.cell? ⟨a,b+(k+1),none⟩=some (.int .u64 (y1:Int))
theorem LRd.below {w f:World} {B s:Nat} {d:Value} {a b k:Nat} {y0 y1:Nat} (h:LRd w B d a b k y0 y1) (c:Below s w f) (g:B<s) (e:a<s):LRd f B d a b k y0 y1:=
 ⟨(c.cell (p:=⟨B,2,none⟩) g).trans h.1,(c.cell (p:=⟨a,b+k,none⟩) e).trans h.2.1,(c.cell (p:=⟨a,b+(k+1),none⟩) e).trans h.2.2⟩
theorem LRd.alloc {w:World} {B:Nat} {b:Value} {a c k:Nat} {y0 y1:Nat} (h:LRd w B b a c k y0 y1) (d:B<w.heap.size) (e:a<w.heap.size) (o:Obj):LRd (w.alloc o) B b a c k y0 y1:=
 h.below ((Below.refl w.heap.size w).alloc (Nat.le_refl _) o) d e
abbrev oW (a b:Int):Obj:=.cells #[.int .i64 a,.int .i64 b] 3
abbrev oL (a b:Nat):Obj:=.cells #[.int .u64 (a:Int),.int .u64 (b:Int)] 41
theorem lX (w:World) (a b:Nat):VSrc (w.alloc (oL a b)) (some ⟨w.heap.size,0,none⟩) w.heap.size 0 2 (yV [a,b]):=
 ⟨fun _=>rfl,fun _=>by simp,fun j c=>by
  rcases (show j=0\/j=1 by omega) with rfl | rfl
  ·simp [yV]
  ·simp [yV]⟩
theorem VSrc.alloc {w:World} {p:Option Addr} {b off n:Nat} {f:Nat->Value} (h:VSrc w p b off n f) (o:Obj):VSrc (w.alloc o) p b off n f:=h.below ((Below.refl _ w).alloc (Nat.le_refl _) o)
theorem VSrc.drew {w:World} {p:Option Addr} {b off n:Nat} {f:Nat->Value} (h:VSrc w p b off n f):VSrc w.drew p b off n f:=⟨h.at_,h.lt,h.cell⟩
theorem PP (x:Int) (W T cx g h cy n k D:Nat) (B x1 i:Int) (y0 y1 t u ev:Nat) (w:World)
  (hR:∀ v,TBox w 4 (.slice (some ⟨W,T,none⟩) n cx) (.slice (some ⟨g,h,none⟩) n cy) v->ARd v w.heap.size 4 (.slice (some ⟨W,T,none⟩) n cx) (.slice (some ⟨g,h,none⟩) n cy) W T g h k B x1 y0 y1)
  (hk:k+1<n) (hn:n<=256) (h0:0<=B) (h1:x1<=109572) (hD:x1 - B=(D:Int)) (hi:x - B=i) (ci:0<i) (cl:i<(D:Int)) (ac:y0<18446744073709551616) (bb:y1<18446744073709551616) (ad:t<18446744073709551616) (as:u<18446744073709551616) (bv:ev<18446744073709551616)
  (bi:Hid (∀ m,Calls Tryz.prog 148 #[.int .u64 (y0:Int)] m fun e v=>e=.returned (.int .u64 (t:Int))/\Below m.heap.size m v))
  (Q:Hid (∀ m,Calls Tryz.prog 148 #[.int .u64 (y1:Int)] m fun e v=>e=.returned (.int .u64 (u:Int))/\Below m.heap.size m v))
  (cc:Hid (∀ m,Calls Tryz.prog 64 #[.int .u64 (aQ (wAt [(D:Int) - i,i] [t,u] 2) D:Int)] m fun e v=>e=.returned (.int .u64 (ev:Int))/\Below m.heap.size m v))
  (H:Hid (lK w 4 (.slice (some ⟨W,T,none⟩) n cx) (.slice (some ⟨g,h,none⟩) n cy) x (k:Int) 0)) :
  Calls Tryz.prog 107 #[.agg #[.int .i64 4,.slice (some ⟨W,T,none⟩) n cx,.slice (some ⟨g,h,none⟩) n cy],.int .i64 x] w fun e v=>e=.returned (.tuple #[.int .u64 (heldN ev y0 y1:Int),.int .i64 0])/\Below w.heap.size w v:=by
 have HB:=hideS (bU w 4 (.slice (some ⟨W,T,none⟩) n cx) (.slice (some ⟨g,h,none⟩) n cy));unfold lK at H
 have HR:=hideS hR;have bz:=hideS fun m=>mP ev y0 y1 m bv ac bb
 have F:Hid (∀ m J K,VSrc m (some ⟨J,0,none⟩) J 0 2 (xV [(D:Int) - i,i])->VSrc m (some ⟨K,0,none⟩) K 0 2 (yV [t,u])->Calls Tryz.prog 146 #[.slice (some ⟨J,0,none⟩) 2 2,.slice (some ⟨K,0,none⟩) 2 2,.int .i64 (D:Int)] m fun e v=>e=.returned (.int .u64 (aQ (wAt [(D:Int) - i,i] [t,u] 2) D:Int))/\Below m.heap.size m v):=fun m J K s1 s2=>
  jq J 0 2 K 0 2 2 D [(D:Int) - i,i] [t,u] m s1 s2 (by omega) (by omega) (fun j hj=>by
   rcases (show j=0\/j=1 by omega) with rfl | rfl
   ·show -9007199254740992<=(D:Int) - i/\(D:Int) - i<=_;omega
   ·show -9007199254740992<=i/\i<=_;omega) (fun j hj=>by
   rcases (show j=0\/j=1 by omega) with rfl | rfl
   ·exact ad
   ·exact as) (by omega) (by omega)
 generalize aQ (wAt [(D:Int) - i,i] [t,u] 2) D=R at *
 generalize heldN ev y0 y1=V at *
 have f1:IntKind.i64.wrap ((k:Int)+1)=(k:Int)+1:=by rw [IntKind.wrap_i64];omega
 have f2:IntKind.i64.wrap (x1 - B)=x1 - B:=by rw [IntKind.wrap_i64];omega
 have f3:IntKind.i64.wrap (x - B)=x - B:=by rw [IntKind.wrap_i64];omega
 have J:(0:Int)<=(k:Int)+1:=by omega
 have K:(k:Int)+1<(n:Int):=by omega
 have g3:(0:Int)<=(k:Int):=by omega
 have g4:(k:Int)<(n:Int):=by omega
 have hx:(B==x)=false:=beq_false_of_ne (by omega)
 have cd:(D:Int)<=109572:=by omega
 clear hR ac bb ad as bv
 go_enter Tryz.func107,Tryz.ntmps107
 go_wp2_with fail
 refine (H.out _ HB.out.bl).mono ?_
 rintro e w1 ⟨rfl,bc⟩;have P:=hideS (HB.out.step bc);clear bc;have hA:=HR.out w1 P.out;obtain⟨t0,t1,t2,a0,a1,b0,b1,ly⟩:=hA
 go_wp2_with fail
 go_quiet (fail)
 obtain⟨f,M⟩:∃ f,w1.drewN nq=f:=⟨_,rfl⟩;rw [M];have S:Hid (TBox w 4 (.slice (some ⟨W,T,none⟩) n cx) (.slice (some ⟨g,h,none⟩) n cy) f):=by show TBox _ _ _ _ _;rw [<- M];exact P.out.drewN nq
 clear M t0 t1 t2 a0 a1 b0 b1 ly P;obtain⟨t0,t1,t2,a0,a1,b0,b1,ly⟩:=HR.out f S.out;have b:Hid (w.heap.size<f.heap.size/\g<f.heap.size):=⟨S.out.lt,ly⟩;have K0:Hid (LRd f w.heap.size (.slice (some ⟨g,h,none⟩) n cy) g h k y0 y1):=⟨t2,b0,b1⟩;have bs:Hid (∀ o,LRd (f.alloc o) w.heap.size (.slice (some ⟨g,h,none⟩) n cy) g h k y0 y1):=fun o=>K0.out.alloc b.out.1 b.out.2 o
 have Bq:Hid (Below w.heap.size w f):=S.out.bl;have br:=hideS (bi.out f.drew);have bk:=hideS (bi.out (f.alloc (oW ((D:Int) - i) i)).drew);have C:Hid ((f.alloc (oW ((D:Int) - i) i)).heap.size=f.heap.size+1):=by show _=_;simp
 clear ly f2 f1 J K;have ca:Hid (IntKind.i64.wrap ((k:Int)+1)=(k:Int)+1/\(0:Int)<=(k:Int)+1/\(k:Int)+1<(n:Int)/\IntKind.i64.wrap ((D:Int) - i)=(D:Int) - i):=⟨by rw [IntKind.wrap_i64];omega,by omega,by omega,by rw [IntKind.wrap_i64];omega⟩
 go_wp2_with fail
 obtain⟨f1,J,K,f5⟩:=ca.out
 go_region_held3 (fun x=>x.cell? ⟨w.heap.size,2,none⟩=some (.slice (some ⟨g,h,none⟩) n cy)/\x.cell? ⟨g,h+k,none⟩=some (.int .u64 (y0:Int))/\x.cell? ⟨g,h+(k+1),none⟩=some (.int .u64 (y1:Int))) (first | exact K0.out | exact bs.out _ | exact K3.out | exact al.out _ | exact X.out | exact s.out _ | exact A.out _ _ | exact K5.out | exact K6.out | go_keep) (first
  | ((go_at_call 148;(with_reducible refine br.out.mono ?_);rintro e y ⟨rfl,q⟩;have L:=hideS (Bq.out.drew.trans (q.mono Bq.out.size));have K3:=hideS (LRd.below (w:=f.drew) K0.out q b.out.1 b.out.2);have z:Hid (f.heap.size<=y.heap.size):=q.size;have al:Hid (∀ o,LRd (y.alloc o) w.heap.size (.slice (some ⟨g,h,none⟩) n cy) g h k y0 y1):=(fun o=>K3.out.alloc (Nat.lt_of_lt_of_le b.out.1 z.out) (Nat.lt_of_lt_of_le b.out.2 z.out) o);have ai:=hideS (Q.out y);have bo:=hideS (Q.out (y.alloc (oW ((D:Int) - i) i)));clear q))
  | ((go_at_call 148;(with_reducible refine bk.out.mono ?_);rintro e y ⟨rfl,q⟩;have L:=hideS ((Bq.out.alloc Bq.out.size (oW ((D:Int) - i) i)).drew.trans (q.mono (by have:=Bq.out.size;show w.heap.size<=(f.alloc (oW ((D:Int) - i) i)).heap.size;rw [C.out];omega)));have K3:=hideS (LRd.below (w:=(f.alloc (oW ((D:Int) - i) i)).drew) (bs.out _) q (show w.heap.size<(f.alloc (oW ((D:Int) - i) i)).heap.size by rw [C.out];have:=b.out.1;omega) (show g<(f.alloc (oW ((D:Int) - i) i)).heap.size by rw [C.out];have:=b.out.2;omega));have z:Hid (f.heap.size<=y.heap.size):=(Nat.le_trans (show f.heap.size<=(f.alloc (oW ((D:Int) - i) i)).heap.size by rw [C.out];omega) q.size);have S3:=hideS ((lL f ((D:Int) - i) i).drew.below q);have ab:=hideS (Q.out y);clear q))
  | ((go_at_call 148;(with_reducible refine ai.out.mono ?_);rintro e d ⟨rfl,c⟩;have E:=hideS (L.out.trans (c.mono L.out.size));have X:=hideS (K3.out.below c (Nat.lt_of_lt_of_le b.out.1 z.out) (Nat.lt_of_lt_of_le b.out.2 z.out));have l:Hid (f.heap.size<=d.heap.size):=(Nat.le_trans z.out c.size);have s:Hid (∀ o,LRd (d.alloc o) w.heap.size (.slice (some ⟨g,h,none⟩) n cy) g h k y0 y1):=(fun o=>X.out.alloc (Nat.lt_of_lt_of_le b.out.1 l.out) (Nat.lt_of_lt_of_le b.out.2 l.out) o);have A:Hid (∀ o r,LRd ((d.alloc o).alloc r) w.heap.size (.slice (some ⟨g,h,none⟩) n cy) g h k y0 y1):=(fun o r=>(s.out o).alloc (by simp;have:=l.out;have:=b.out.1;omega) (by simp;have:=l.out;have:=b.out.2;omega) r);have G:=hideS (F.out ((d.alloc (oW ((D:Int) - i) i)).alloc (oL t u)) d.heap.size (d.alloc (oW ((D:Int) - i) i)).heap.size ((lL d _ _).alloc _) (lX _ _ _));have I:=hideS (F.out ((d.alloc (oL t u)).alloc (oW ((D:Int) - i) i)) (d.alloc (oL t u)).heap.size d.heap.size (lL _ _ _) ((lX d _ _).alloc _));have ba:Hid ((d.alloc (oW ((D:Int) - i) i)).heap.size=d.heap.size+1/\(d.alloc (oL t u)).heap.size=d.heap.size+1):=⟨by simp,by simp⟩;rw [ba.out.1] at G;rw [ba.out.2] at I;have p:Hid (∀ o r,Below w.heap.size w ((d.alloc o).alloc r)):=(fun o r=>(E.out.alloc E.out.size o).alloc (by simp;have:=E.out.size;omega) r);have cf:Hid (∀ o r,f.heap.size<=((d.alloc o).alloc r).heap.size):=(fun o r=>by simp;have:=l.out;omega);clear c))
  | ((go_at_call 148;(with_reducible refine bo.out.mono ?_);rintro e d ⟨rfl,c⟩;have N:Hid ((y.alloc (oW ((D:Int) - i) i)).heap.size=y.heap.size+1):=(by show _=_;simp);have Y:Hid (Below w.heap.size w (y.alloc (oW ((D:Int) - i) i))):=(L.out.alloc L.out.size (oW ((D:Int) - i) i));have E:=hideS (Y.out.trans (c.mono Y.out.size));have X:=hideS ((al.out _).below c (by rw [N.out];have:=z.out;have:=b.out.1;omega) (by rw [N.out];have:=z.out;have:=b.out.2;omega));have l:Hid (f.heap.size<=d.heap.size):=(Nat.le_trans (Nat.le_trans z.out (by rw [N.out];omega)) c.size);have s:Hid (∀ o,LRd (d.alloc o) w.heap.size (.slice (some ⟨g,h,none⟩) n cy) g h k y0 y1):=(fun o=>X.out.alloc (Nat.lt_of_lt_of_le b.out.1 l.out) (Nat.lt_of_lt_of_le b.out.2 l.out) o);have A:Hid (∀ o r,LRd ((d.alloc o).alloc r) w.heap.size (.slice (some ⟨g,h,none⟩) n cy) g h k y0 y1):=(fun o r=>(s.out o).alloc (by simp;have:=l.out;have:=b.out.1;omega) (by simp;have:=l.out;have:=b.out.2;omega) r);have am:=hideS (F.out (d.alloc (oL t u)) y.heap.size d.heap.size (((lL y _ _).below c).alloc _) (lX d _ _));have p:Hid (∀ o,Below w.heap.size w (d.alloc o)):=(fun o=>E.out.alloc E.out.size o);clear c))
  | ((go_at_call 148;(with_reducible refine ab.out.mono ?_);rintro e d ⟨rfl,c⟩;have E:=hideS (L.out.trans (c.mono L.out.size));have X:=hideS (K3.out.below c (Nat.lt_of_lt_of_le b.out.1 z.out) (Nat.lt_of_lt_of_le b.out.2 z.out));have l:Hid (f.heap.size<=d.heap.size):=(Nat.le_trans z.out c.size);have s:Hid (∀ o,LRd (d.alloc o) w.heap.size (.slice (some ⟨g,h,none⟩) n cy) g h k y0 y1):=(fun o=>X.out.alloc (Nat.lt_of_lt_of_le b.out.1 l.out) (Nat.lt_of_lt_of_le b.out.2 l.out) o);have A:Hid (∀ o r,LRd ((d.alloc o).alloc r) w.heap.size (.slice (some ⟨g,h,none⟩) n cy) g h k y0 y1):=(fun o r=>(s.out o).alloc (by simp;have:=l.out;have:=b.out.1;omega) (by simp;have:=l.out;have:=b.out.2;omega) r);have bh:=hideS (F.out (d.alloc (oL t u)) f.heap.size d.heap.size ((S3.out.below c).alloc _) (lX d _ _));have p:Hid (∀ o,Below w.heap.size w (d.alloc o)):=(fun o=>E.out.alloc E.out.size o);clear c))
  | ((go_at_call 146;(with_reducible refine bh.out.mono ?_);rintro e O ⟨rfl,a⟩;have Z:=hideS ((p.out _).trans (a.mono (p.out _).size));have K5:=hideS ((s.out _).below a (by simp;have:=l.out;have:=b.out.1;omega) (by simp;have:=l.out;have:=b.out.2;omega));have z5:Hid (f.heap.size<=O.heap.size):=(Nat.le_trans (by simp;have:=l.out;omega) a.size);clear a))
  | ((go_at_call 146;(with_reducible refine am.out.mono ?_);rintro e O ⟨rfl,a⟩;have Z:=hideS ((p.out _).trans (a.mono (p.out _).size));have K5:=hideS ((s.out _).below a (by simp;have:=l.out;have:=b.out.1;omega) (by simp;have:=l.out;have:=b.out.2;omega));have z5:Hid (f.heap.size<=O.heap.size):=(Nat.le_trans (by simp;have:=l.out;omega) a.size);clear a))
  | ((go_at_call 146;(with_reducible refine G.out.mono ?_);rintro e O ⟨rfl,a⟩;have Z:=hideS ((p.out _ _).trans (a.mono (p.out _ _).size));have K5:=hideS ((A.out _ _).below a (by simp;have:=l.out;have:=b.out.1;omega) (by simp;have:=l.out;have:=b.out.2;omega));have z5:Hid (f.heap.size<=O.heap.size):=(Nat.le_trans (by simp;have:=l.out;omega) a.size);clear a))
  | ((go_at_call 146;(with_reducible refine I.out.mono ?_);rintro e O ⟨rfl,a⟩;have Z:=hideS ((p.out _ _).trans (a.mono (p.out _ _).size));have K5:=hideS ((A.out _ _).below a (by simp;have:=l.out;have:=b.out.1;omega) (by simp;have:=l.out;have:=b.out.2;omega));have z5:Hid (f.heap.size<=O.heap.size):=(Nat.le_trans (by simp;have:=l.out;omega) a.size);clear a))
  | ((go_at_call 64;refine (cc.out _).mono ?_;rintro e w6 ⟨rfl,U⟩;have B6:=hideS (Z.out.trans (U.mono Z.out.size));have K6:=hideS (K5.out.below U (Nat.lt_of_lt_of_le b.out.1 z5.out) (Nat.lt_of_lt_of_le b.out.2 z5.out));clear U)))
 all_goals
  clear t0 t1 t2 a0 a1 b0 b1;obtain⟨u2,u0,u1⟩:=K6.out
  go_wp2_with fail
  go_quiet ((go_at_call 149;exact Calls.quiet_of_same (bz.out _)))
  go_wp2_with fail
  go_ret2
  exact⟨rfl,B6.out.os,B6.out.tape,B6.out.output,B6.out.size,B6.out.block⟩
def logV (a ex:Nat->Nat) (ys:List Nat) (k D:Nat) (i:Int):Nat:=heldN (ex (aQ (wAt [(D:Int) - i,i] [a (ys.getD k 0),a (ys.getD (k+1) 0)] 2) D)) (ys.getD k 0) (ys.getD (k+1) 0)
theorem yX (b ex:Nat->Nat) (x:Int) (p q:Option Addr) (s v cx z r cy n k D:Nat) (i:Int) (xs:List Int) (ys:List Nat) (w:World) (h:OkT 4 xs ys) (hn:xs.length=n) (F:FindO 4 xs ys x (k:Int) 0) (m:Inside xs x k D i) (g:TSrc w p q s v z r xs ys)
  (l:∀ y,b y<18446744073709551616) (u:∀ y,ex y<18446744073709551616)
  (A:∀ j,j=k\/j=k+1->∀ c,Calls Tryz.prog 148 #[.int .u64 (ys.getD j 0:Nat)] c fun e d=>e=.returned (.int .u64 (b (ys.getD j 0):Nat))/\Below c.heap.size c d)
  (B:∀ c,Calls Tryz.prog 64 #[.int .u64 (aQ (wAt [(D:Int) - i,i] [b (ys.getD k 0),b (ys.getD (k+1) 0)] 2) D:Nat)] c fun e d=>e=.returned (.int .u64 (ex (aQ (wAt [(D:Int) - i,i] [b (ys.getD k 0),b (ys.getD (k+1) 0)] 2) D):Nat))/\Below c.heap.size c d) :
  Calls Tryz.prog 107 #[.agg #[.int .i64 4,.slice p n cx,.slice q n cy],.int .i64 x] w fun e d=>e=.returned (.tuple #[.int .u64 (logV b ex ys k D i:Int),.int .i64 0])/\Below w.heap.size w d:=by
 have t:=h.len;have G:=h.hi;have J:=m.lt;have H:lK w 4 (.slice p n cx) (.slice q n cy) x (k:Int) 0:=fun c E=>by
  have:=cM 4 x k 0 p q s v cx z r cy xs ys c F (g.below E);rw [t,hn] at this
  exact this
 obtain rfl:=g.x.at_ (by omega)
 obtain rfl:=g.y.at_ (by omega)
 have C:=ap (h.node k (by omega))
 have I:=ap (h.node (k+1) (by omega))
 exact PP x s v cx z r cy n k D (xs.getD k 0) (xs.getD (k+1) 0) i (ys.getD k 0) (ys.getD (k+1) 0) (b (ys.getD k 0)) (b (ys.getD (k+1) 0)) _ w (fun d o=>by
   have a:=g.below o.bl;exact⟨o.t0,o.t1,o.t2,a.x.cell k (by omega),a.x.cell (k+1) (by omega),a.y.cell k (by omega),a.y.cell (k+1) (by omega),a.y.lt (by omega)⟩)
  (by omega) (by omega) C.1 I.2.1 m.hD m.hi m.lo m.hi' (by have:=(g.f k (by omega)).2;omega) (by have:=(g.f (k+1) (by omega)).2;omega) (l _) (l _) (u _) (A k (Or.inl rfl)) (A (k+1) (Or.inr rfl)) B H
inductive AtR (xs:List Int) (ys:List Nat):Int->Int->Nat->Nat->Prop
 | node (kind x:Int) (k:Nat) (h:xs.getD k 0=x):AtR xs ys kind x k (ys.getD k 0)
 | flat (x:Int) (k:Nat) (h:xs.getD k 0≠x):AtR xs ys 1 x k (ys.getD k 0)
 | lin (x:Int) (k D:Nat) (i:Int) (h:Inside xs x k D i):AtR xs ys 2 x k (linV ys k D i)
 | cub (x:Int) (k D:Nat) (i:Int) (h:Inside xs x k D i):AtR xs ys 3 x k (Bu (ptL xs ys k) D i)
theorem eH {kind:Int} {xs:List Int} {ys:List Nat} {x:Int} {k D:Nat} {i:Int} (h:OkT kind xs ys) (a:Inside xs x k D i):0<D/\(D:Int)<=109572:=by
 have b:=ap (h.node k (by have:=a.lt;omega))
 have c:=ap (h.node (k+1) a.lt);have:=a.hD;have:=a.lo;have:=a.hi';omega
theorem Kf {kind:Int} {xs:List Int} {ys:List Nat} {k:Nat} (h:OkT kind xs ys) (c:∀ i<ys.length,U64 (ys.getD i 0:Nat)) (d:k+1<xs.length) (e:ae (ys.getD k 0:Nat)<=ae (ys.getD (k+1) 0:Nat)):∃ p q,ptL xs ys k=[ys.getD k 0,p,q,ys.getD (k+1) 0]/\Up4 (ys.getD k 0) p q (ys.getD (k+1) 0):=by
 have f:=h.step d;have g:=ap (h.node k (by omega))
 have j:=ap (h.node (k+1) d);obtain⟨a,b⟩:=iK (m:=xs.getD (k+1) 0 - xs.getD k 0) (by omega) (by omega)
 exact⟨_,_,rfl,Px a b (gW h c k) (gW h c (k+1)) (aL h c (by omega)) (aL h c d) e⟩
theorem yY {kind:Int} {xs:List Int} {ys:List Nat} {k:Nat} (h:OkT kind xs ys) (c:∀ i<ys.length,U64 (ys.getD i 0:Nat)) (d:k+1<xs.length) (e:ae (ys.getD (k+1) 0:Nat)<=ae (ys.getD k 0:Nat)):∃ p q,ptL xs ys k=[ys.getD k 0,p,q,ys.getD (k+1) 0]/\Down4 (ys.getD k 0) p q (ys.getD (k+1) 0):=by
 have f:=h.step d;have g:=ap (h.node k (by omega))
 have j:=ap (h.node (k+1) d);obtain⟨a,b⟩:=iK (m:=xs.getD (k+1) 0 - xs.getD k 0) (by omega) (by omega)
 exact⟨_,_,rfl,Ju a b (gW h c k) (gW h c (k+1)) (aL h c (by omega)) (aL h c d) e⟩
theorem yZ {kind:Int} {xs:List Int} {ys:List Nat} {x:Int} {k D K:Nat} {i:Int} (e:K=1074) (h:OkT kind xs ys) (b:∀ i<ys.length,U64 (ys.getD i 0:Nat)) (a:Inside xs x k D i):linV ys k D i=overG (eX (D:Int) i (uI K (ys.getD k 0)) (uI K (ys.getD (k+1) 0))) D:=by
 have c:=a.lt;have d:=eH h a;have:=a.lo;have:=a.hi';exact mU e (aL h b (by omega)) (aL h b c) (by omega) (by omega) d.2
theorem qU {kind x:Int} {xs:List Int} {ys:List Nat} {k V:Nat} (h:OkT kind xs ys) (r:∀ i<ys.length,U64 (ys.getD i 0:Nat)) (v:k<xs.length) (t:AtR xs ys kind x k V) (o:k+1<xs.length->ae (ys.getD k 0:Nat)<=ae (ys.getD (k+1) 0:Nat)) :
  U64 (V:Nat)/\ah (V:Nat)=false/\ae (ys.getD k 0:Nat)<=ae (V:Nat)/\(k+1<xs.length->ae (V:Nat)<=ae (ys.getD (k+1) 0:Nat)):=by
 have l:=aL h r v;cases t with
 | node kind x k u=>exact⟨aU l.lt,l.nn.nan,Int.le_refl _,o⟩
 | flat x k u=>exact⟨aU l.lt,l.nn.nan,Int.le_refl _,o⟩
 | lin x k D i j=>
  have s:=eH h j;have m:=j.lt;have a:=j.lo;have b:=j.hi';rw [yZ rfl h r j];obtain⟨c,d,e⟩:=cD (eX (D:Int) i (uI 1074 (ys.getD k 0)) (uI 1074 (ys.getD (k+1) 0))) D;obtain⟨f,g⟩:=yo (K:=1074) rfl l (aL h r m) (show 0<=i by omega) (show i<=(D:Int) by omega) s.1 (o m)
  rw [e];exact⟨c,d,f,fun _=>g⟩
 | cub x k D i j=>
  have s:=eH h j;have m:=j.lt;have a:=j.lo;have b:=j.hi';obtain⟨p,q,w,n⟩:=Kf h r m (o m);rw [w,tG (K:=1074) rfl n.n0 n.n1 n.n2 n.n3 (by omega) (by omega) s.2]
  obtain⟨c,d,e⟩:=cD (eM (D:Int) i (uI 1074 (ys.getD k 0)) (uI 1074 p) (uI 1074 q) (uI 1074 (ys.getD (k+1) 0))) (D*D*D);obtain⟨f,g⟩:=yp (K:=1074) rfl n (show 0<=i by omega) (show i<=(D:Int) by omega) s.1
  rw [e];exact⟨c,d,f,fun _=>g⟩
theorem lY {kind x:Int} {xs:List Int} {ys:List Nat} {k V:Nat} (h:OkT kind xs ys) (r:∀ i<ys.length,U64 (ys.getD i 0:Nat)) (v:k<xs.length) (t:AtR xs ys kind x k V) (o:k+1<xs.length->ae (ys.getD (k+1) 0:Nat)<=ae (ys.getD k 0:Nat)) :
  U64 (V:Nat)/\ah (V:Nat)=false/\ae (V:Nat)<=ae (ys.getD k 0:Nat)/\(k+1<xs.length->ae (ys.getD (k+1) 0:Nat)<=ae (V:Nat)):=by
 have l:=aL h r v;cases t with
 | node kind x k u=>exact⟨aU l.lt,l.nn.nan,Int.le_refl _,o⟩
 | flat x k u=>exact⟨aU l.lt,l.nn.nan,Int.le_refl _,o⟩
 | lin x k D i j=>
  have s:=eH h j;have m:=j.lt;have a:=j.lo;have b:=j.hi';rw [yZ rfl h r j];obtain⟨c,d,e⟩:=cD (eX (D:Int) i (uI 1074 (ys.getD k 0)) (uI 1074 (ys.getD (k+1) 0))) D;obtain⟨f,g⟩:=sG (K:=1074) rfl l (aL h r m) (show 0<=i by omega) (show i<=(D:Int) by omega) s.1 (o m)
  rw [e];exact⟨c,d,g,fun _=>f⟩
 | cub x k D i j=>
  have s:=eH h j;have m:=j.lt;have a:=j.lo;have b:=j.hi';obtain⟨p,q,w,n⟩:=yY h r m (o m);rw [w,tG (K:=1074) rfl n.n0 n.n1 n.n2 n.n3 (by omega) (by omega) s.2]
  obtain⟨c,d,e⟩:=cD (eM (D:Int) i (uI 1074 (ys.getD k 0)) (uI 1074 p) (uI 1074 q) (uI 1074 (ys.getD (k+1) 0))) (D*D*D);obtain⟨f,g⟩:=sH (K:=1074) rfl n (show 0<=i by omega) (show i<=(D:Int) by omega) s.1
  rw [e];exact⟨c,d,g,fun _=>f⟩
theorem DS {x:Nat} (h:NN x):ae (x:Nat)=sgZ (sB x) (x % 9223372036854775808):=by
 have b:=h.nan;have c:=h.lt;unfold ae;rw [b,if_neg (by decide)]
 unfold sgB szI sgZ sB
 by_cases a:(9223372036854775808:Int)<=(x:Int)
 ·rw [show x / 9223372036854775808 % 2=1 by omega]
  simp [a]
 ·rw [show x / 9223372036854775808 % 2=0 by omega]
  simp [a]
structure Opp (x y:Nat):Prop where
 nx:NN x
 ny:NN y
 rk:ae (y:Nat)= -ae (x:Nat)
theorem Opp.sz {x y:Nat} (h:Opp x y):y % 9223372036854775808=x % 9223372036854775808/\(x % 9223372036854775808≠0->sB y=!sB x):=by
 have e:=h.rk;rw [DS h.nx,DS h.ny] at e
 unfold sgZ at e
 cases a:sB x<;>cases b:sB y<;>rw [a,b] at e<;>simp at e<;>refine⟨by omega,fun c=>?_⟩
 ·omega
 ·rfl
 ·rfl
 ·omega
theorem Opp.symm {x y:Nat} (h:Opp x y):Opp y x:=⟨h.ny,h.nx,by have:=h.rk;omega⟩
theorem Opp.num {x y:Nat} (h:Opp x y) (a:ag x):ag y:=by unfold ag at *;rw [h.sz.1];exact a
theorem Opp.vI {x y:Nat} (h:Opp x y):vI y= -vI x:=by
 obtain⟨b,c⟩:=h.sz;rw [kz,kz];unfold aV;rw [b]
 by_cases a:x % 9223372036854775808=0
 ·rw [a,bp];unfold sgZ;split<;>split<;>rfl
 ·rw [c a];cases sB x<;>simp [sgZ]
theorem FS {v a b:Int} (d:ah v=false) (e:ah a=false) (c:ah b=false):ah (dJ v a b)=false/\ae (dJ v a b)=max (min (ae a) (ae b)) (min (max (ae a) (ae b)) (ae v)):=by
 unfold dJ;rw [aA c e,aA d c,aA e d,aA e c,aA d e,aA c d];simp only [decide_eq_true_eq]
 (repeat' split)<;>exact⟨by assumption,by omega⟩
noncomputable def lnW (y:Nat):Nat:=if y<18446744073709551616 then cn (lnF y) else 0
noncomputable def exW (y:Nat):Nat:=if y<18446744073709551616 then cn (lV y) else 0
theorem PQ (y:Nat):lnW y<18446744073709551616:=by
 unfold lnW
 split
 ·rename_i h;exact (jv h).lt
 ·decide
theorem Kg (y:Nat):exW y<18446744073709551616:=by
 unfold exW
 split
 ·rename_i h;cases a:ah (y:Int) with
  | true=>rw [(ck h).nan a,lz];omega
  | false=>
   obtain⟨z,e,b⟩:=(ck h).num a;rw [e,ao];omega
 ·decide
theorem jZ {y:Nat} (h:NumW y) (d:ltB 0 (y:Nat)=true):NumW (lnW y):=by
 obtain⟨g,f⟩:=iJ h.lt d;have b:=jv h.lt;obtain⟨z,e,c⟩:=b.fin h.nb f g;have a:=b.lt;unfold lnW;rw [if_pos h.lt];rw [e,ao] at a ⊢
 exact⟨a,c⟩
theorem Kh {xs:List Int} {ys:List Nat} {x:Int} {k D:Nat} {i:Int} (h:OkT 4 xs ys) (p:∀ i<ys.length,U64 (ys.getD i 0:Nat)) (g:Inside xs x k D i) :
  ah (logV lnW exW ys k D i:Nat)=false/\logV lnW exW ys k D i<18446744073709551616/\min (ae (ys.getD k 0:Nat)) (ae (ys.getD (k+1) 0:Nat))<=ae (logV lnW exW ys k D i:Nat)/\ae (logV lnW exW ys k D i:Nat)<=max (ae (ys.getD k 0:Nat)) (ae (ys.getD (k+1) 0:Nat)):=by
 have n:=g.lt;have C:=eH h g;have a:=g.lo;have b:=g.hi';have f:=aL h p (show k<xs.length by omega)
 have j:=aL h p n;have w:=(ap (h.node k (by omega))).2.2.2.2 rfl
 have B:=(ap (h.node (k+1) n)).2.2.2.2 rfl;have y:=jZ f w;have r:=jZ j B;unfold logV;rw [mU (K:=1074) rfl y r (by omega) (by omega) C.2]
 obtain⟨t,A,_⟩:=cD (eX (D:Int) i (uI 1074 (lnW (ys.getD k 0))) (uI 1074 (lnW (ys.getD (k+1) 0)))) D;generalize overG (eX (D:Int) i (uI 1074 (lnW (ys.getD k 0))) (uI 1074 (lnW (ys.getD (k+1) 0)))) D=o at *
 have c:o<18446744073709551616:=by have:=t.2;omega
 obtain⟨e,u,l⟩:=(ck c).num A;have z:exW o=e:=by unfold exW;rw [if_pos c,u];rfl
 rw [z];have d:e<18446744073709551616:=by omega
 have s:=(kP l).2.2;obtain⟨q,m⟩:=FS (v:=(e:Nat)) s f.nn.nan j.nn.nan;rw [<- fO d f.lt j.lt] at q m
 exact⟨q,jo d f.lt j.lt,by rw [m];omega,by rw [m];omega⟩
theorem wg (x:Int) (g m:Option Addr) (q v cx y o cy n k D:Nat) (i:Int) (xs:List Int) (ys:List Nat) (w:World) (h:OkT 4 xs ys) (t:∀ i<ys.length,U64 (ys.getD i 0:Nat)) (hn:xs.length=n) (l:FindO 4 xs ys x (k:Int) 0) (c:Inside xs x k D i) (H:TSrc w g m q v y o xs ys) :
  Calls Tryz.prog 107 #[.agg #[.int .i64 4,.slice g n cx,.slice m n cy],.int .i64 x] w fun e F=>e=.returned (.tuple #[.int .u64 (logV lnW exW ys k D i:Int),.int .i64 0])/\Below w.heap.size w F:=by
 have s:=c.lt;have r:=aL h t (show k<xs.length by omega)
 have u:=aL h t s;have I:=eH h c;have a:=c.lo;have b:=c.hi';have C:=(ap (h.node k (by omega))).2.2.2.2 rfl
 have G:=(ap (h.node (k+1) s)).2.2.2.2 rfl;have E:=jZ r C;have A:=jZ u G;have p:=(cD (eX (D:Int) i (uI 1074 (lnW (ys.getD k 0))) (uI 1074 (lnW (ys.getD (k+1) 0)))) D).1;rw [<- mU (K:=1074) rfl E A (by omega) (by omega) I.2] at p
 refine yX lnW exW x g m q v cx y o cy n k D i xs ys w h hn l c H PQ Kg (fun j B f=>?_) (fun f=>?_)
 ·have z:ys.getD j 0<18446744073709551616:=by
   rcases B with rfl | rfl
   ·exact r.lt
   ·exact u.lt
  have:=(jv z).doc f;unfold lnW;rw [if_pos z];exact this
 ·have d:aQ (wAt [(D:Int) - i,i] [lnW (ys.getD k 0),lnW (ys.getD (k+1) 0)] 2) D<18446744073709551616:=by have:=p.2;omega
  have:=(ck d).doc f;have e:exW (aQ (wAt [(D:Int) - i,i] [lnW (ys.getD k 0),lnW (ys.getD (k+1) 0)] 2) D)=cn (lV (aQ (wAt [(D:Int) - i,i] [lnW (ys.getD k 0),lnW (ys.getD (k+1) 0)] 2) D)):=by unfold exW;rw [if_pos d]
  rw [e];exact this
end Go.Proofs.YtfdddijdjpijbaaGreat
