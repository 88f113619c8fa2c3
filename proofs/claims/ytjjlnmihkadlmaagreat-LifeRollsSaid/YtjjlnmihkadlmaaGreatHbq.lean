/-  -/
import Derived.Test.YtjjlnmihkadlmaaGreatHbp
import Derived.Test.YtjjlnmihkadlmaaGreatHbc
namespace Go.Proofs.YtjjlnmihkadlmaaGreat
open Go.RowKit

def LRd (w:World) (B:Nat) (vy:Value) (b2 oy k:Nat) (y0 y1:Nat):Prop:=
 w.cell? ⟨B,2,none⟩=some vy∧w.cell? ⟨b2,oy+k,none⟩=some (.int .u64 (y0:Int))∧w.cell? ⟨b2,oy+(k+1),none⟩=some (.int .u64 (y1:Int))
theorem LRd.below {w w':World} {B s:Nat} {vy:Value} {b2 oy k:Nat} {y0 y1:Nat} (h:LRd w B vy b2 oy k y0 y1) (hb:Below s w w') (hB:B<s) (hy:b2<s):LRd w' B vy b2 oy k y0 y1:=
 ⟨(hb.cell (p:=⟨B,2,none⟩) hB).trans h.1,(hb.cell (p:=⟨b2,oy+k,none⟩) hy).trans h.2.1,(hb.cell (p:=⟨b2,oy+(k+1),none⟩) hy).trans h.2.2⟩
theorem LRd.alloc {w:World} {B:Nat} {vy:Value} {b2 oy k:Nat} {y0 y1:Nat} (h:LRd w B vy b2 oy k y0 y1) (hB:B<w.heap.size) (hy:b2<w.heap.size) (o:Obj):LRd (w.alloc o) B vy b2 oy k y0 y1:=
 h.below ((Below.refl w.heap.size w).alloc (Nat.le_refl _) o) hB hy
abbrev oW (a b:Int):Obj:=.cells #[.int .i64 a,.int .i64 b] 3
abbrev oL (a b:Nat):Obj:=.cells #[.int .u64 (a:Int),.int .u64 (b:Int)] 57
theorem ke (w:World) (a b:Nat):VSrc (w.alloc (oL a b)) (some ⟨w.heap.size,0,none⟩) w.heap.size 0 2 (yV [a,b]):=
 ⟨fun _=>rfl,fun _=>by simp,fun j hj=>by
  rcases (show j=0∨j=1 by omega) with rfl | rfl
  ·simp [yV]
  ·simp [yV]⟩
theorem VSrc.alloc {w:World} {p:Option Addr} {b off n:Nat} {f:Nat→Value} (h:VSrc w p b off n f) (o:Obj):VSrc (w.alloc o) p b off n f:=h.below ((Below.refl _ w).alloc (Nat.le_refl _) o)
theorem VSrc.drew {w:World} {p:Option Addr} {b off n:Nat} {f:Nat→Value} (h:VSrc w p b off n f):VSrc w.drew p b off n f:=⟨h.at_,h.lt,h.cell⟩
set_option maxRecDepth 20000 in
set_option maxHeartbeats 6400000 in
theorem JN (x:Int) (bx ox cx b2 oy cy n k D:Nat) (x0 x1 i:Int) (y0 y1 l0 l1 ev:Nat) (w:World)
  (hR:∀ w',TBox w 4 (.slice (some ⟨bx,ox,none⟩) n cx) (.slice (some ⟨b2,oy,none⟩) n cy) w'→ARd w' w.heap.size 4 (.slice (some ⟨bx,ox,none⟩) n cx) (.slice (some ⟨b2,oy,none⟩) n cy) bx ox b2 oy k x0 x1 y0 y1)
  (hk:k+1<n) (hn:n≤256) (h0:0≤x0) (h1:x1≤109572) (hD:x1 - x0=(D:Int)) (hi:x - x0=i) (hi0:0<i) (hi1:i<(D:Int)) (hy0:y0<18446744073709551616) (hy1:y1<18446744073709551616) (hl0:l0<18446744073709551616) (hl1:l1<18446744073709551616) (hev:ev<18446744073709551616)
  (HL0:Hid (∀ wx,Calls Tryz.prog 142 #[.int .u64 (y0:Int)] wx fun e w'=>e=.returned (.int .u64 (l0:Int))∧Below wx.heap.size wx w'))
  (HL1:Hid (∀ wx,Calls Tryz.prog 142 #[.int .u64 (y1:Int)] wx fun e w'=>e=.returned (.int .u64 (l1:Int))∧Below wx.heap.size wx w'))
  (HEx:Hid (∀ wx,Calls Tryz.prog 141 #[.int .u64 (aI (wAt [(D:Int) - i,i] [l0,l1] 2) D:Int)] wx fun e w'=>e=.returned (.int .u64 (ev:Int))∧Below wx.heap.size wx w'))
  (H:Hid (jV w 4 (.slice (some ⟨bx,ox,none⟩) n cx) (.slice (some ⟨b2,oy,none⟩) n cy) x (k:Int) 0)) :
  Calls Tryz.prog 101 #[.agg #[.int .i64 4,.slice (some ⟨bx,ox,none⟩) n cx,.slice (some ⟨b2,oy,none⟩) n cy],.int .i64 x] w fun e w'=>e=.returned (.tuple #[.int .u64 (heldN ev y0 y1:Int),.int .i64 0])∧Below w.heap.size w w':=by
 have HB:=hideS (bL w 4 (.slice (some ⟨bx,ox,none⟩) n cx) (.slice (some ⟨b2,oy,none⟩) n cy))
 unfold jV at H
 have HR:=hideS hR
 have HHd:=hideS fun wx=>kE ev y0 y1 wx hev hy0 hy1
 have HBt:Hid (∀ wx g1 g2,VSrc wx (some ⟨g1,0,none⟩) g1 0 2 (xV [(D:Int) - i,i])→VSrc wx (some ⟨g2,0,none⟩) g2 0 2 (yV [l0,l1])→Calls Tryz.prog 139 #[.slice (some ⟨g1,0,none⟩) 2 2,.slice (some ⟨g2,0,none⟩) 2 2,.int .i64 (D:Int)] wx fun e w'=>e=.returned (.int .u64 (aI (wAt [(D:Int) - i,i] [l0,l1] 2) D:Int))∧Below wx.heap.size wx w'):=fun wx g1 g2 s1 s2=>
  gZ g1 0 2 g2 0 2 2 D [(D:Int) - i,i] [l0,l1] wx s1 s2 (by omega) (by omega) (fun j hj=>by
   rcases (show j=0∨j=1 by omega) with rfl | rfl
   ·show -9007199254740992≤(D:Int) - i∧(D:Int) - i≤_;omega
   ·show -9007199254740992≤i∧i≤_;omega) (fun j hj=>by
   rcases (show j=0∨j=1 by omega) with rfl | rfl
   ·exact hl0
   ·exact hl1) (by omega) (by omega)
 generalize aI (wAt [(D:Int) - i,i] [l0,l1] 2) D=R at *
 generalize heldN ev y0 y1=V at *
 have f1:IntKind.i64.wrap ((k:Int)+1)=(k:Int)+1:=by rw [IntKind.wrap_i64];omega
 have f2:IntKind.i64.wrap (x1 - x0)=x1 - x0:=by rw [IntKind.wrap_i64];omega
 have f3:IntKind.i64.wrap (x - x0)=x - x0:=by rw [IntKind.wrap_i64];omega
 have g1:(0:Int)≤(k:Int)+1:=by omega
 have g2:(k:Int)+1<(n:Int):=by omega
 have g3:(0:Int)≤(k:Int):=by omega
 have g4:(k:Int)<(n:Int):=by omega
 have hx:(x0==x)=false:=beq_false_of_ne (by omega)
 have hDl:(D:Int)≤109572:=by omega
 clear hR hy0 hy1 hl0 hl1 hev
 go_enter Tryz.func101,Tryz.ntmps101
 go_wp2_with fail
 refine (H.out _ HB.out.bl).mono ?_
 rintro e w1 ⟨rfl,hb1⟩
 have HB1:=hideS (HB.out.step hb1)
 clear hb1
 have hA:=HR.out w1 HB1.out
 obtain⟨t0,t1,t2,a0,a1,b0,b1,ly⟩:=hA
 go_wp2_with fail
 go_quiet (fail)
 obtain⟨wq,hwq⟩:∃ wq,w1.drewN nq=wq:=⟨_,rfl⟩
 rw [hwq]
 have HBq:Hid (TBox w 4 (.slice (some ⟨bx,ox,none⟩) n cx) (.slice (some ⟨b2,oy,none⟩) n cy) wq):=by show TBox _ _ _ _ _;rw [← hwq];exact HB1.out.drewN nq
 clear hwq t0 t1 t2 a0 a1 b0 b1 ly HB1
 obtain⟨t0,t1,t2,a0,a1,b0,b1,ly⟩:=HR.out wq HBq.out
 have HZ:Hid (w.heap.size<wq.heap.size∧b2<wq.heap.size):=⟨HBq.out.lt,ly⟩
 have K0:Hid (LRd wq w.heap.size (.slice (some ⟨b2,oy,none⟩) n cy) b2 oy k y0 y1):=⟨t2,b0,b1⟩
 have K0a:Hid (∀ o,LRd (wq.alloc o) w.heap.size (.slice (some ⟨b2,oy,none⟩) n cy) b2 oy k y0 y1):=fun o=>K0.out.alloc HZ.out.1 HZ.out.2 o
 have Bq:Hid (Below w.heap.size w wq):=HBq.out.bl
 have HL0a:=hideS (HL0.out wq.drew)
 have HL0b:=hideS (HL0.out (wq.alloc (oW ((D:Int) - i) i)).drew)
 have hsq:Hid ((wq.alloc (oW ((D:Int) - i) i)).heap.size=wq.heap.size+1):=by show _=_;simp
 clear ly f2 f1 g1 g2
 have HFs:Hid (IntKind.i64.wrap ((k:Int)+1)=(k:Int)+1∧(0:Int)≤(k:Int)+1∧(k:Int)+1<(n:Int)∧IntKind.i64.wrap ((D:Int) - i)=(D:Int) - i):=⟨by rw [IntKind.wrap_i64];omega,by omega,by omega,by rw [IntKind.wrap_i64];omega⟩
 go_wp2_with fail
 obtain⟨f1,g1,g2,f5⟩:=HFs.out
 go_region_held3 (fun x=>x.cell? ⟨w.heap.size,2,none⟩=some (.slice (some ⟨b2,oy,none⟩) n cy)∧x.cell? ⟨b2,oy+k,none⟩=some (.int .u64 (y0:Int))∧x.cell? ⟨b2,oy+(k+1),none⟩=some (.int .u64 (y1:Int))) (first | exact K0.out | exact K0a.out _ | exact K3.out | exact K3a.out _ | exact K4.out | exact K4a.out _ | exact K4b.out _ _ | exact K5.out | exact K6.out | go_keep) (first
  | ((go_at_call 142;(with_reducible refine HL0a.out.mono ?_);rintro e w3 ⟨rfl,hb3⟩;have B3:=hideS (Bq.out.drew.trans (hb3.mono Bq.out.size));have K3:=hideS (LRd.below (w:=wq.drew) K0.out hb3 HZ.out.1 HZ.out.2);have z3:Hid (wq.heap.size≤w3.heap.size):=hb3.size;have K3a:Hid (∀ o,LRd (w3.alloc o) w.heap.size (.slice (some ⟨b2,oy,none⟩) n cy) b2 oy k y0 y1):=(fun o=>K3.out.alloc (Nat.lt_of_lt_of_le HZ.out.1 z3.out) (Nat.lt_of_lt_of_le HZ.out.2 z3.out) o);have HL1a:=hideS (HL1.out w3);have HL1b:=hideS (HL1.out (w3.alloc (oW ((D:Int) - i) i)));clear hb3))
  | ((go_at_call 142;(with_reducible refine HL0b.out.mono ?_);rintro e w3 ⟨rfl,hb3⟩;have B3:=hideS ((Bq.out.alloc Bq.out.size (oW ((D:Int) - i) i)).drew.trans (hb3.mono (by have:=Bq.out.size;show w.heap.size≤(wq.alloc (oW ((D:Int) - i) i)).heap.size;rw [hsq.out];omega)));have K3:=hideS (LRd.below (w:=(wq.alloc (oW ((D:Int) - i) i)).drew) (K0a.out _) hb3 (show w.heap.size<(wq.alloc (oW ((D:Int) - i) i)).heap.size by rw [hsq.out];have:=HZ.out.1;omega) (show b2<(wq.alloc (oW ((D:Int) - i) i)).heap.size by rw [hsq.out];have:=HZ.out.2;omega));have z3:Hid (wq.heap.size≤w3.heap.size):=(Nat.le_trans (show wq.heap.size≤(wq.alloc (oW ((D:Int) - i) i)).heap.size by rw [hsq.out];omega) hb3.size);have S3:=hideS ((jW wq ((D:Int) - i) i).drew.below hb3);have HL1c:=hideS (HL1.out w3);clear hb3))
  | ((go_at_call 142;(with_reducible refine HL1a.out.mono ?_);rintro e w4 ⟨rfl,hb4⟩;have B4:=hideS (B3.out.trans (hb4.mono B3.out.size));have K4:=hideS (K3.out.below hb4 (Nat.lt_of_lt_of_le HZ.out.1 z3.out) (Nat.lt_of_lt_of_le HZ.out.2 z3.out));have z4:Hid (wq.heap.size≤w4.heap.size):=(Nat.le_trans z3.out hb4.size);have K4a:Hid (∀ o,LRd (w4.alloc o) w.heap.size (.slice (some ⟨b2,oy,none⟩) n cy) b2 oy k y0 y1):=(fun o=>K4.out.alloc (Nat.lt_of_lt_of_le HZ.out.1 z4.out) (Nat.lt_of_lt_of_le HZ.out.2 z4.out) o);have K4b:Hid (∀ o o',LRd ((w4.alloc o).alloc o') w.heap.size (.slice (some ⟨b2,oy,none⟩) n cy) b2 oy k y0 y1):=(fun o o'=>(K4a.out o).alloc (by simp;have:=z4.out;have:=HZ.out.1;omega) (by simp;have:=z4.out;have:=HZ.out.2;omega) o');have HB3o:=hideS (HBt.out ((w4.alloc (oW ((D:Int) - i) i)).alloc (oL l0 l1)) w4.heap.size (w4.alloc (oW ((D:Int) - i) i)).heap.size ((jW w4 _ _).alloc _) (ke _ _ _));have HB4o:=hideS (HBt.out ((w4.alloc (oL l0 l1)).alloc (oW ((D:Int) - i) i)) (w4.alloc (oL l0 l1)).heap.size w4.heap.size (jW _ _ _) ((ke w4 _ _).alloc _));have hs4:Hid ((w4.alloc (oW ((D:Int) - i) i)).heap.size=w4.heap.size+1∧(w4.alloc (oL l0 l1)).heap.size=w4.heap.size+1):=⟨by simp,by simp⟩;rw [hs4.out.1] at HB3o;rw [hs4.out.2] at HB4o;have B4x:Hid (∀ o o',Below w.heap.size w ((w4.alloc o).alloc o')):=(fun o o'=>(B4.out.alloc B4.out.size o).alloc (by simp;have:=B4.out.size;omega) o');have Z4x:Hid (∀ o o',wq.heap.size≤((w4.alloc o).alloc o').heap.size):=(fun o o'=>by simp;have:=z4.out;omega);clear hb4))
  | ((go_at_call 142;(with_reducible refine HL1b.out.mono ?_);rintro e w4 ⟨rfl,hb4⟩;have hs3:Hid ((w3.alloc (oW ((D:Int) - i) i)).heap.size=w3.heap.size+1):=(by show _=_;simp);have B3w:Hid (Below w.heap.size w (w3.alloc (oW ((D:Int) - i) i))):=(B3.out.alloc B3.out.size (oW ((D:Int) - i) i));have B4:=hideS (B3w.out.trans (hb4.mono B3w.out.size));have K4:=hideS ((K3a.out _).below hb4 (by rw [hs3.out];have:=z3.out;have:=HZ.out.1;omega) (by rw [hs3.out];have:=z3.out;have:=HZ.out.2;omega));have z4:Hid (wq.heap.size≤w4.heap.size):=(Nat.le_trans (Nat.le_trans z3.out (by rw [hs3.out];omega)) hb4.size);have K4a:Hid (∀ o,LRd (w4.alloc o) w.heap.size (.slice (some ⟨b2,oy,none⟩) n cy) b2 oy k y0 y1):=(fun o=>K4.out.alloc (Nat.lt_of_lt_of_le HZ.out.1 z4.out) (Nat.lt_of_lt_of_le HZ.out.2 z4.out) o);have K4b:Hid (∀ o o',LRd ((w4.alloc o).alloc o') w.heap.size (.slice (some ⟨b2,oy,none⟩) n cy) b2 oy k y0 y1):=(fun o o'=>(K4a.out o).alloc (by simp;have:=z4.out;have:=HZ.out.1;omega) (by simp;have:=z4.out;have:=HZ.out.2;omega) o');have HB2o:=hideS (HBt.out (w4.alloc (oL l0 l1)) w3.heap.size w4.heap.size (((jW w3 _ _).below hb4).alloc _) (ke w4 _ _));have B4x:Hid (∀ o,Below w.heap.size w (w4.alloc o)):=(fun o=>B4.out.alloc B4.out.size o);clear hb4))
  | ((go_at_call 142;(with_reducible refine HL1c.out.mono ?_);rintro e w4 ⟨rfl,hb4⟩;have B4:=hideS (B3.out.trans (hb4.mono B3.out.size));have K4:=hideS (K3.out.below hb4 (Nat.lt_of_lt_of_le HZ.out.1 z3.out) (Nat.lt_of_lt_of_le HZ.out.2 z3.out));have z4:Hid (wq.heap.size≤w4.heap.size):=(Nat.le_trans z3.out hb4.size);have K4a:Hid (∀ o,LRd (w4.alloc o) w.heap.size (.slice (some ⟨b2,oy,none⟩) n cy) b2 oy k y0 y1):=(fun o=>K4.out.alloc (Nat.lt_of_lt_of_le HZ.out.1 z4.out) (Nat.lt_of_lt_of_le HZ.out.2 z4.out) o);have K4b:Hid (∀ o o',LRd ((w4.alloc o).alloc o') w.heap.size (.slice (some ⟨b2,oy,none⟩) n cy) b2 oy k y0 y1):=(fun o o'=>(K4a.out o).alloc (by simp;have:=z4.out;have:=HZ.out.1;omega) (by simp;have:=z4.out;have:=HZ.out.2;omega) o');have HB1o:=hideS (HBt.out (w4.alloc (oL l0 l1)) wq.heap.size w4.heap.size ((S3.out.below hb4).alloc _) (ke w4 _ _));have B4x:Hid (∀ o,Below w.heap.size w (w4.alloc o)):=(fun o=>B4.out.alloc B4.out.size o);clear hb4))
  | ((go_at_call 139;(with_reducible refine HB1o.out.mono ?_);rintro e w5 ⟨rfl,hb5⟩;have B5:=hideS ((B4x.out _).trans (hb5.mono (B4x.out _).size));have K5:=hideS ((K4a.out _).below hb5 (by simp;have:=z4.out;have:=HZ.out.1;omega) (by simp;have:=z4.out;have:=HZ.out.2;omega));have z5:Hid (wq.heap.size≤w5.heap.size):=(Nat.le_trans (by simp;have:=z4.out;omega) hb5.size);clear hb5))
  | ((go_at_call 139;(with_reducible refine HB2o.out.mono ?_);rintro e w5 ⟨rfl,hb5⟩;have B5:=hideS ((B4x.out _).trans (hb5.mono (B4x.out _).size));have K5:=hideS ((K4a.out _).below hb5 (by simp;have:=z4.out;have:=HZ.out.1;omega) (by simp;have:=z4.out;have:=HZ.out.2;omega));have z5:Hid (wq.heap.size≤w5.heap.size):=(Nat.le_trans (by simp;have:=z4.out;omega) hb5.size);clear hb5))
  | ((go_at_call 139;(with_reducible refine HB3o.out.mono ?_);rintro e w5 ⟨rfl,hb5⟩;have B5:=hideS ((B4x.out _ _).trans (hb5.mono (B4x.out _ _).size));have K5:=hideS ((K4b.out _ _).below hb5 (by simp;have:=z4.out;have:=HZ.out.1;omega) (by simp;have:=z4.out;have:=HZ.out.2;omega));have z5:Hid (wq.heap.size≤w5.heap.size):=(Nat.le_trans (by simp;have:=z4.out;omega) hb5.size);clear hb5))
  | ((go_at_call 139;(with_reducible refine HB4o.out.mono ?_);rintro e w5 ⟨rfl,hb5⟩;have B5:=hideS ((B4x.out _ _).trans (hb5.mono (B4x.out _ _).size));have K5:=hideS ((K4b.out _ _).below hb5 (by simp;have:=z4.out;have:=HZ.out.1;omega) (by simp;have:=z4.out;have:=HZ.out.2;omega));have z5:Hid (wq.heap.size≤w5.heap.size):=(Nat.le_trans (by simp;have:=z4.out;omega) hb5.size);clear hb5))
  | ((go_at_call 141;refine (HEx.out _).mono ?_;rintro e w6 ⟨rfl,hb6⟩;have B6:=hideS (B5.out.trans (hb6.mono B5.out.size));have K6:=hideS (K5.out.below hb6 (Nat.lt_of_lt_of_le HZ.out.1 z5.out) (Nat.lt_of_lt_of_le HZ.out.2 z5.out));clear hb6)))
 all_goals
  clear t0 t1 t2 a0 a1 b0 b1
  obtain⟨u2,u0,u1⟩:=K6.out
  go_wp2_with fail
  go_quiet ((go_at_call 143;exact Calls.quiet_of_same (HHd.out _)))
  go_wp2_with fail
  go_ret2
  exact⟨rfl,B6.out.os,B6.out.tape,B6.out.output,B6.out.size,B6.out.block⟩
def logV (ln ex:Nat→Nat) (ys:List Nat) (k D:Nat) (i:Int):Nat:=heldN (ex (aI (wAt [(D:Int) - i,i] [ln (ys.getD k 0),ln (ys.getD (k+1) 0)] 2) D)) (ys.getD k 0) (ys.getD (k+1) 0)
theorem vu (ln ex:Nat→Nat) (x:Int) (px py:Option Addr) (bx ox cx b2 oy cy n k D:Nat) (i:Int) (xs:List Int) (ys:List Nat) (w:World) (h:OkT 4 xs ys) (hn:xs.length=n) (hf:FindO 4 xs ys x (k:Int) 0) (hI:Inside xs x k D i) (hs:TSrc w px py bx ox b2 oy xs ys)
  (hln:∀ y,ln y<18446744073709551616) (hex:∀ y,ex y<18446744073709551616)
  (HL:∀ j,j=k∨j=k+1→∀ wx,Calls Tryz.prog 142 #[.int .u64 (ys.getD j 0:Nat)] wx fun e w'=>e=.returned (.int .u64 (ln (ys.getD j 0):Nat))∧Below wx.heap.size wx w')
  (HE:∀ wx,Calls Tryz.prog 141 #[.int .u64 (aI (wAt [(D:Int) - i,i] [ln (ys.getD k 0),ln (ys.getD (k+1) 0)] 2) D:Nat)] wx fun e w'=>e=.returned (.int .u64 (ex (aI (wAt [(D:Int) - i,i] [ln (ys.getD k 0),ln (ys.getD (k+1) 0)] 2) D):Nat))∧Below wx.heap.size wx w') :
  Calls Tryz.prog 101 #[.agg #[.int .i64 4,.slice px n cx,.slice py n cy],.int .i64 x] w fun e w'=>e=.returned (.tuple #[.int .u64 (logV ln ex ys k D i:Int),.int .i64 0])∧Below w.heap.size w w':=by
 have hyl:=h.len
 have hhi:=h.hi
 have hlt:=hI.lt
 have H:jV w 4 (.slice px n cx) (.slice py n cy) x (k:Int) 0:=fun wx hb=>by
  have:=cC 4 x k 0 px py bx ox cx b2 oy cy xs ys wx hf (hs.below hb)
  rw [hyl,hn] at this
  exact this
 obtain rfl:=hs.x.at_ (by omega)
 obtain rfl:=hs.y.at_ (by omega)
 have n0:=ao (h.node k (by omega))
 have n1:=ao (h.node (k+1) (by omega))
 exact JN x bx ox cx b2 oy cy n k D (xs.getD k 0) (xs.getD (k+1) 0) i (ys.getD k 0) (ys.getD (k+1) 0) (ln (ys.getD k 0)) (ln (ys.getD (k+1) 0)) _ w (fun w' ht=>by
   have hs':=hs.below ht.bl
   exact⟨ht.t0,ht.t1,ht.t2,hs'.x.cell k (by omega),hs'.x.cell (k+1) (by omega),hs'.y.cell k (by omega),hs'.y.cell (k+1) (by omega),hs'.y.lt (by omega)⟩)
  (by omega) (by omega) n0.1 n1.2.1 hI.hD hI.hi hI.lo hI.hi' (by have:=(hs.f k (by omega)).2;omega) (by have:=(hs.f (k+1) (by omega)).2;omega) (hln _) (hln _) (hex _) (HL k (Or.inl rfl)) (HL (k+1) (Or.inr rfl)) HE H
end Go.Proofs.YtjjlnmihkadlmaaGreat
namespace Go.Proofs.YtjjlnmihkadlmaaGreat
open Go.RowKit

inductive AtR (xs:List Int) (ys:List Nat):Int→Int→Nat→Nat→Prop
 | node (kind x:Int) (k:Nat) (h:xs.getD k 0=x):AtR xs ys kind x k (ys.getD k 0)
 | flat (x:Int) (k:Nat) (h:xs.getD k 0≠x):AtR xs ys 1 x k (ys.getD k 0)
 | lin (x:Int) (k D:Nat) (i:Int) (h:Inside xs x k D i):AtR xs ys 2 x k (linV ys k D i)
 | cub (x:Int) (k D:Nat) (i:Int) (h:Inside xs x k D i):AtR xs ys 3 x k (xI (ptL xs ys k) D i)
theorem dD {kind:Int} {xs:List Int} {ys:List Nat} {x:Int} {k D:Nat} {i:Int} (h:OkT kind xs ys) (hI:Inside xs x k D i):0<D∧(D:Int)≤109572:=by
 have n0:=ao (h.node k (by have:=hI.lt;omega))
 have n1:=ao (h.node (k+1) hI.lt)
 have:=hI.hD
 have:=hI.lo
 have:=hI.hi'
 omega
theorem Fg {kind:Int} {xs:List Int} {ys:List Nat} {k:Nat} (h:OkT kind xs ys) (hf:∀ i<ys.length,U64 (ys.getD i 0:Nat)) (hk:k+1<xs.length) (hr:ae (ys.getD k 0:Nat)≤ae (ys.getD (k+1) 0:Nat)):∃ p q,ptL xs ys k=[ys.getD k 0,p,q,ys.getD (k+1) 0]∧Up4 (ys.getD k 0) p q (ys.getD (k+1) 0):=by
 have hs:=h.step hk
 have n0:=ao (h.node k (by omega))
 have n1:=ao (h.node (k+1) hk)
 obtain⟨a,b⟩:=gz (m:=xs.getD (k+1) 0 - xs.getD k 0) (by omega) (by omega)
 exact⟨_,_,rfl,Jx a b (fH h hf k) (fH h hf (k+1)) (aE h hf (by omega)) (aE h hf hk) hr⟩
theorem vv {kind:Int} {xs:List Int} {ys:List Nat} {k:Nat} (h:OkT kind xs ys) (hf:∀ i<ys.length,U64 (ys.getD i 0:Nat)) (hk:k+1<xs.length) (hr:ae (ys.getD (k+1) 0:Nat)≤ae (ys.getD k 0:Nat)):∃ p q,ptL xs ys k=[ys.getD k 0,p,q,ys.getD (k+1) 0]∧Down4 (ys.getD k 0) p q (ys.getD (k+1) 0):=by
 have hs:=h.step hk
 have n0:=ao (h.node k (by omega))
 have n1:=ao (h.node (k+1) hk)
 obtain⟨a,b⟩:=gz (m:=xs.getD (k+1) 0 - xs.getD k 0) (by omega) (by omega)
 exact⟨_,_,rfl,Ex a b (fH h hf k) (fH h hf (k+1)) (aE h hf (by omega)) (aE h hf hk) hr⟩
theorem vw {kind:Int} {xs:List Int} {ys:List Nat} {x:Int} {k D K:Nat} {i:Int} (hK:K=1074) (h:OkT kind xs ys) (hf:∀ i<ys.length,U64 (ys.getD i 0:Nat)) (hI:Inside xs x k D i):linV ys k D i=overG (dI (D:Int) i (uI K (ys.getD k 0)) (uI K (ys.getD (k+1) 0))) D:=by
 have hl:=hI.lt
 have hD:=dD h hI
 have:=hI.lo
 have:=hI.hi'
 exact kJ hK (aE h hf (by omega)) (aE h hf hl) (by omega) (by omega) hD.2
theorem nW {kind x:Int} {xs:List Int} {ys:List Nat} {k V:Nat} (h:OkT kind xs ys) (hf:∀ i<ys.length,U64 (ys.getD i 0:Nat)) (hk:k<xs.length) (hA:AtR xs ys kind x k V) (hr:k+1<xs.length→ae (ys.getD k 0:Nat)≤ae (ys.getD (k+1) 0:Nat)) :
  U64 (V:Nat)∧ag (V:Nat)=false∧ae (ys.getD k 0:Nat)≤ae (V:Nat)∧(k+1<xs.length→ae (V:Nat)≤ae (ys.getD (k+1) 0:Nat)):=by
 have hy:=aE h hf hk
 cases hA with
 | node kind x k h'=>exact⟨aQ hy.lt,hy.nn.nan,Int.le_refl _,hr⟩
 | flat x k h'=>exact⟨aQ hy.lt,hy.nn.nan,Int.le_refl _,hr⟩
 | lin x k D i hI=>
  have hD:=dD h hI
  have hl:=hI.lt
  have a:=hI.lo
  have b:=hI.hi'
  rw [vw rfl h hf hI]
  obtain⟨c,d,e⟩:=bZ (dI (D:Int) i (uI 1074 (ys.getD k 0)) (uI 1074 (ys.getD (k+1) 0))) D
  obtain⟨f,g⟩:=uF (K:=1074) rfl hy (aE h hf hl) (show 0≤i by omega) (show i≤(D:Int) by omega) hD.1 (hr hl)
  rw [e]
  exact⟨c,d,f,fun _=>g⟩
 | cub x k D i hI=>
  have hD:=dD h hI
  have hl:=hI.lt
  have a:=hI.lo
  have b:=hI.hi'
  obtain⟨p,q,hp,hu⟩:=Fg h hf hl (hr hl)
  rw [hp,qe (K:=1074) rfl hu.n0 hu.n1 hu.n2 hu.n3 (by omega) (by omega) hD.2]
  obtain⟨c,d,e⟩:=bZ (dF (D:Int) i (uI 1074 (ys.getD k 0)) (uI 1074 p) (uI 1074 q) (uI 1074 (ys.getD (k+1) 0))) (D*D*D)
  obtain⟨f,g⟩:=uG (K:=1074) rfl hu (show 0≤i by omega) (show i≤(D:Int) by omega) hD.1
  rw [e]
  exact⟨c,d,f,fun _=>g⟩
theorem kh {kind x:Int} {xs:List Int} {ys:List Nat} {k V:Nat} (h:OkT kind xs ys) (hf:∀ i<ys.length,U64 (ys.getD i 0:Nat)) (hk:k<xs.length) (hA:AtR xs ys kind x k V) (hr:k+1<xs.length→ae (ys.getD (k+1) 0:Nat)≤ae (ys.getD k 0:Nat)) :
  U64 (V:Nat)∧ag (V:Nat)=false∧ae (V:Nat)≤ae (ys.getD k 0:Nat)∧(k+1<xs.length→ae (ys.getD (k+1) 0:Nat)≤ae (V:Nat)):=by
 have hy:=aE h hf hk
 cases hA with
 | node kind x k h'=>exact⟨aQ hy.lt,hy.nn.nan,Int.le_refl _,hr⟩
 | flat x k h'=>exact⟨aQ hy.lt,hy.nn.nan,Int.le_refl _,hr⟩
 | lin x k D i hI=>
  have hD:=dD h hI
  have hl:=hI.lt
  have a:=hI.lo
  have b:=hI.hi'
  rw [vw rfl h hf hI]
  obtain⟨c,d,e⟩:=bZ (dI (D:Int) i (uI 1074 (ys.getD k 0)) (uI 1074 (ys.getD (k+1) 0))) D
  obtain⟨f,g⟩:=oS (K:=1074) rfl hy (aE h hf hl) (show 0≤i by omega) (show i≤(D:Int) by omega) hD.1 (hr hl)
  rw [e]
  exact⟨c,d,g,fun _=>f⟩
 | cub x k D i hI=>
  have hD:=dD h hI
  have hl:=hI.lt
  have a:=hI.lo
  have b:=hI.hi'
  obtain⟨p,q,hp,hu⟩:=vv h hf hl (hr hl)
  rw [hp,qe (K:=1074) rfl hu.n0 hu.n1 hu.n2 hu.n3 (by omega) (by omega) hD.2]
  obtain⟨c,d,e⟩:=bZ (dF (D:Int) i (uI 1074 (ys.getD k 0)) (uI 1074 p) (uI 1074 q) (uI 1074 (ys.getD (k+1) 0))) (D*D*D)
  obtain⟨f,g⟩:=oT (K:=1074) rfl hu (show 0≤i by omega) (show i≤(D:Int) by omega) hD.1
  rw [e]
  exact⟨c,d,g,fun _=>f⟩
end Go.Proofs.YtjjlnmihkadlmaaGreat
namespace Go.Proofs.YtjjlnmihkadlmaaGreat
open Go.RowKit

theorem zO {x:Nat} (h:NN x):ae (x:Nat)=sgZ (sB x) (x % 9223372036854775808):=by
 have hn:=h.nan
 have hl:=h.lt
 unfold ae
 rw [hn,if_neg (by decide)]
 unfold sgB szI sgZ sB
 by_cases hs:(9223372036854775808:Int)≤(x:Int)
 ·rw [show x / 9223372036854775808 % 2=1 by omega]
  simp [hs]
 ·rw [show x / 9223372036854775808 % 2=0 by omega]
  simp [hs]
structure Opp (x y:Nat):Prop where
 nx:NN x
 ny:NN y
 rk:ae (y:Nat)= -ae (x:Nat)
theorem Opp.sz {x y:Nat} (h:Opp x y):y % 9223372036854775808=x % 9223372036854775808∧(x % 9223372036854775808≠0→sB y=!sB x):=by
 have e:=h.rk
 rw [zO h.nx,zO h.ny] at e
 unfold sgZ at e
 cases hx:sB x<;>cases hy:sB y<;>rw [hx,hy] at e<;>simp at e<;>refine⟨by omega,fun h0=>?_⟩
 ·omega
 ·rfl
 ·rfl
 ·omega
theorem Opp.num {x y:Nat} (h:Opp x y) (hx:af x):af y:=by unfold af at *;rw [h.sz.1];exact hx
theorem Opp.vI {x y:Nat} (h:Opp x y):vI y= -vI x:=by
 obtain⟨e1,e2⟩:=h.sz
 rw [lz,lz]
 unfold aV
 rw [e1]
 by_cases h0:x % 9223372036854775808=0
 ·rw [h0,bD];unfold sgZ;split<;>split<;>rfl
 ·rw [e2 h0]
  cases sB x<;>simp [sgZ]
end Go.Proofs.YtjjlnmihkadlmaaGreat
namespace Go.Proofs.YtjjlnmihkadlmaaGreat
open Go.RowKit

theorem BQ {v a b:Int} (hv:ag v=false) (ha:ag a=false) (hb:ag b=false):ag (cY v a b)=false∧ae (cY v a b)=max (min (ae a) (ae b)) (min (max (ae a) (ae b)) (ae v)):=by
 unfold cY
 rw [ax hb ha,ax hv hb,ax ha hv,ax ha hb,ax hv ha,ax hb hv]
 simp only [decide_eq_true_eq]
 (repeat' split)<;>exact⟨by assumption,by omega⟩
end Go.Proofs.YtjjlnmihkadlmaaGreat
namespace Go.Proofs.YtjjlnmihkadlmaaGreat
open Go.RowKit

noncomputable def lnW (y:Nat):Nat:=if y<18446744073709551616 then cn (lnF y) else 0
noncomputable def exW (y:Nat):Nat:=if y<18446744073709551616 then cn (JI y) else 0
theorem JO (y:Nat):lnW y<18446744073709551616:=by
 unfold lnW
 split
 ·rename_i h;exact (ib h).lt
 ·decide
theorem Fh (y:Nat):exW y<18446744073709551616:=by
 unfold exW
 split
 ·rename_i h
  cases hn:ag (y:Int) with
  | true=>rw [(dQ h).nan hn,jK];omega
  | false=>
   obtain⟨z,e,hz⟩:=(dQ h).num hn
   rw [e,aq];omega
 ·decide
theorem iJ {y:Nat} (h:NumW y) (hp:ltB 0 (y:Nat)=true):NumW (lnW y):=by
 obtain⟨h1,h2⟩:=gw h.lt hp
 have hs:=ib h.lt
 obtain⟨z,e,hz⟩:=hs.fin h.nb h2 h1
 have hl:=hs.lt
 unfold lnW
 rw [if_pos h.lt]
 rw [e,aq] at hl ⊢
 exact⟨hl,hz⟩
theorem Fi {xs:List Int} {ys:List Nat} {x:Int} {k D:Nat} {i:Int} (h:OkT 4 xs ys) (hf:∀ i<ys.length,U64 (ys.getD i 0:Nat)) (hI:Inside xs x k D i) :
  ag (logV lnW exW ys k D i:Nat)=false∧logV lnW exW ys k D i<18446744073709551616∧min (ae (ys.getD k 0:Nat)) (ae (ys.getD (k+1) 0:Nat))≤ae (logV lnW exW ys k D i:Nat)∧ae (logV lnW exW ys k D i:Nat)≤max (ae (ys.getD k 0:Nat)) (ae (ys.getD (k+1) 0:Nat)):=by
 have hl:=hI.lt
 have hD:=dD h hI
 have a:=hI.lo
 have b:=hI.hi'
 have w0:=aE h hf (show k<xs.length by omega)
 have w1:=aE h hf hl
 have p0:=(ao (h.node k (by omega))).2.2.2.2 rfl
 have p1:=(ao (h.node (k+1) hl)).2.2.2.2 rfl
 have l0:=iJ w0 p0
 have l1:=iJ w1 p1
 unfold logV
 rw [kJ (K:=1074) rfl l0 l1 (by omega) (by omega) hD.2]
 obtain⟨g1,g2,_⟩:=bZ (dI (D:Int) i (uI 1074 (lnW (ys.getD k 0))) (uI 1074 (lnW (ys.getD (k+1) 0)))) D
 generalize overG (dI (D:Int) i (uI 1074 (lnW (ys.getD k 0))) (uI 1074 (lnW (ys.getD (k+1) 0)))) D=o at *
 have o64:o<18446744073709551616:=by have:=g1.2;omega
 obtain⟨e,he,hle⟩:=(dQ o64).num g2
 have ev:exW o=e:=by unfold exW;rw [if_pos o64,he];rfl
 rw [ev]
 have e64:e<18446744073709551616:=by omega
 have en:=(jl hle).2.2
 obtain⟨n1,r1⟩:=BQ (v:=(e:Nat)) en w0.nn.nan w1.nn.nan
 rw [← eA e64 w0.lt w1.lt] at n1 r1
 exact⟨n1,gY e64 w0.lt w1.lt,by rw [r1];omega,by rw [r1];omega⟩
theorem sj (x:Int) (px py:Option Addr) (bx ox cx b2 oy cy n k D:Nat) (i:Int) (xs:List Int) (ys:List Nat) (w:World) (h:OkT 4 xs ys) (hf:∀ i<ys.length,U64 (ys.getD i 0:Nat)) (hn:xs.length=n) (hfo:FindO 4 xs ys x (k:Int) 0) (hI:Inside xs x k D i) (hs:TSrc w px py bx ox b2 oy xs ys) :
  Calls Tryz.prog 101 #[.agg #[.int .i64 4,.slice px n cx,.slice py n cy],.int .i64 x] w fun e w'=>e=.returned (.tuple #[.int .u64 (logV lnW exW ys k D i:Int),.int .i64 0])∧Below w.heap.size w w':=by
 have hl:=hI.lt
 have w0:=aE h hf (show k<xs.length by omega)
 have w1:=aE h hf hl
 have hD:=dD h hI
 have a:=hI.lo
 have b:=hI.hi'
 have p0:=(ao (h.node k (by omega))).2.2.2.2 rfl
 have p1:=(ao (h.node (k+1) hl)).2.2.2.2 rfl
 have l0:=iJ w0 p0
 have l1:=iJ w1 p1
 have g1:=(bZ (dI (D:Int) i (uI 1074 (lnW (ys.getD k 0))) (uI 1074 (lnW (ys.getD (k+1) 0)))) D).1
 rw [← kJ (K:=1074) rfl l0 l1 (by omega) (by omega) hD.2] at g1
 refine vu lnW exW x px py bx ox cx b2 oy cy n k D i xs ys w h hn hfo hI hs JO Fh (fun j hj wx=>?_) (fun wx=>?_)
 ·have wj:ys.getD j 0<18446744073709551616:=by
   rcases hj with rfl | rfl
   ·exact w0.lt
   ·exact w1.lt
  have:=(ib wj).doc wx
  unfold lnW
  rw [if_pos wj];exact this
 ·have o64:aI (wAt [(D:Int) - i,i] [lnW (ys.getD k 0),lnW (ys.getD (k+1) 0)] 2) D<18446744073709551616:=by have:=g1.2;omega
  have:=(dQ o64).doc wx
  have e:exW (aI (wAt [(D:Int) - i,i] [lnW (ys.getD k 0),lnW (ys.getD (k+1) 0)] 2) D)=cn (JI (aI (wAt [(D:Int) - i,i] [lnW (ys.getD k 0),lnW (ys.getD (k+1) 0)] 2) D)):=by unfold exW;rw [if_pos o64]
  rw [e];exact this
end Go.Proofs.YtjjlnmihkadlmaaGreat
