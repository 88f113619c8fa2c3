/-  -/
import Derived.Test.YtjjlnmihkadlmaaGreatHbe
import Derived.Test.YtjjlnmihkadlmaaGreatHbn
import Derived.Test.YtjjlnmihkadlmaaGreatRefAcc9
import Derived.Test.YtjjlnmihkadlmaaGreatHbb
import Derived.Test.YtjjlnmihkadlmaaGreatHbl
import Derived.Test.YtjjlnmihkadlmaaGreatHaq
import Derived.Test.YtjjlnmihkadlmaaGreatHbc
namespace Go.Proofs.YtjjlnmihkadlmaaGreat
open Go.RowKit

def wAt (ws:List Int) (ys:List Nat):Nat→A.St
 | 0=>⟨0,0⟩
 | k+1=>(wAt ws ys k).merge (A.bp (fi (ws.getD k 0)) (ys.getD k 0))
set_option maxHeartbeats 3200000 in
theorem gZ (bx ox cx b2 oy cy n d:Nat) (ws:List Int) (ys:List Nat) (w:World) (hX:VSrc w (some ⟨bx,ox,none⟩) bx ox n (xV ws)) (hY:VSrc w (some ⟨b2,oy,none⟩) b2 oy n (yV ys)) (hn:1≤n) (hn':n≤10) (hw:∀ i<n,-9007199254740992≤ws.getD i 0∧ws.getD i 0≤9007199254740992) (hy:∀ i<n,ys.getD i 0<18446744073709551616) (hd:1≤d) (hd':d≤9223372036854775807) :
  Calls Tryz.prog 139 #[.slice (some ⟨bx,ox,none⟩) n cx,.slice (some ⟨b2,oy,none⟩) n cy,.int .i64 (d:Int)] w fun e w'=>e=.returned (.int .u64 (aI (wAt ws ys n) d:Int))∧Below w.heap.size w w':=by
 have HX:=hideS hX
 have HY:=hideS hY
 have HW:=hideS hw
 have HYl:=hideS hy
 have H0:=hideS (Ej w)
 obtain⟨res,hres⟩:∃ res:Int,(aI (wAt ws ys n) d:Int)=res:=⟨_,rfl⟩
 have HRes:=hideS hres
 rw [hres]
 clear hX hY hw hy hres
 go_enter Tryz.func139,Tryz.ntmps139
 go_wp2_with fail
 go_loopw [8] (fun i wr=>∃ k:Nat,k≤n∧i=.int .i64 k∧Hid (Held w wr w.heap.size (wAt ws ys k) k)) (fun i _=>n - (intOf i).toNat)
 case atStart=>exact⟨0,Nat.zero_le _,rfl,H0⟩
 case round=>
  clear H0
  obtain⟨k,hk,rfl,HH⟩:=hrel
  obtain⟨⟨neg,va,M,ee,hb,hdn,hfr,hdv⟩,hbl,hlo,hlt0⟩:=HH.out
  have h4:=us hb
  by_cases hlt:k<n
  ·have hcx:wr.cell? ⟨bx,ox+k,none⟩=some (.int .i64 (ws.getD k 0)):=(hbl.cell (p:=⟨bx,ox+k,none⟩) (HX.out.lt (by omega))).trans (HX.out.cell k hlt)
   have hcy:wr.cell? ⟨b2,oy+k,none⟩=some (.int .u64 ((ys.getD k 0:Nat):Int)):=(hbl.cell (p:=⟨b2,oy+k,none⟩) (HY.out.lt (by omega))).trans (HY.out.cell k hlt)
   have hb2:b2<wr.heap.size:=Nat.lt_of_lt_of_le (HY.out.lt (by omega)) hbl.size
   have hbx:bx<wr.heap.size:=Nat.lt_of_lt_of_le (HX.out.lt (by omega)) hbl.size
   have hwk:=HW.out k hlt
   have hyk:=HYl.out k hlt
   have HI:=hideS fun wx=>cJ (ws.getD k 0) wx (by omega) (by omega)
   have hfk:=iW hwk.1 hwk.2
   obtain⟨x,hxx⟩:∃ x,fi (ws.getD k 0)=x:=⟨_,rfl⟩
   obtain⟨xi,hxi⟩:∃ xi:Int,xi=(x:Int):=⟨_,rfl⟩
   obtain⟨y,hyy⟩:∃ y,ys.getD k 0=y:=⟨_,rfl⟩
   obtain⟨yi,hyi⟩:∃ yi:Int,yi=(y:Int):=⟨_,rfl⟩
   have HNx:Hid (wAt ws ys (k+1)=(wAt ws ys k).merge (A.bp x y)):=by show _=_;rw [← hxx,← hyy];rfl
   rw [hxx] at HI hfk
   rw [hyy] at hyk
   rw [hyy,← hyi] at hcy
   rw [← hxi] at HI
   have HXI:=hideS hxi
   have HYI:=hideS hyi
   have HU:Hid (U64 xi):=by show U64 _;rw [hxi];exact aQ hfk
   have HU2:Hid (U64 yi):=by show U64 _;rw [hyi];exact aQ hyk
   generalize ws.getD k 0=wk at *
   obtain⟨a,haa⟩:∃ a,wAt ws ys k=a:=⟨_,rfl⟩
   rw [haa] at hdv h4 hb HNx
   obtain⟨pa,la,ca,rfl⟩:=hdn.shape
   have HAd:Hid (∀ w1,Below wr.heap.size wr w1→Calls Tryz.prog 99 #[AV (a.s:Int) neg (.slice pa la ca) ee,.int .u64 xi,.int .u64 yi] w1 (cA w1 (.slice pa la ca) M (wAt ws ys (k+1)) (k+1))):=fun w1 hb1=>by
    have:=KJ a.s neg (.slice pa la ca) M ee a.N k x y xi yi w1 (hdn.below hb1) hdv (zg (by omega)) HU.out HU2.out HXI HYI
    rw [El,← HNx.out] at this
    exact this
   have HPut:Hid (∀ w1,Below wr.heap.size wr w1→∀ w2 r,cA w1 (.slice pa la ca) M (wAt ws ys (k+1)) (k+1) r w2→∃ neg' p l c e',r=.returned (AV ((wAt ws ys (k+1)).s:Int) neg' (.slice p l c) e')∧Held4 w2 w.heap.size (a.s:Int) neg (.slice pa la ca) ee∧Held w (put4 w2 w.heap.size ((wAt ws ys (k+1)).s:Int) neg' (.slice p l c) e') w.heap.size (wAt ws ys (k+1)) (k+1)):=fun w1 hb1 w2 r hend=>
    Ek (wr:=w1) (by rw [hb1.block w.heap.size hlt0];exact hb) hfr (hbl.trans (hb1.mono hbl.size)) hlo (Nat.lt_of_lt_of_le hlt0 hb1.size) hend
   have q0:=h4.c0
   have q1:=h4.c1
   have q2:=h4.c2
   have q3:=h4.c3
   have HZ:=hideS (And.intro hlt0 (And.intro hbx hb2))
   have g3:(0:Int)≤(k:Int):=by omega
   have g4:(k:Int)<(n:Int):=by omega
   clear hxx hxi haa hdn hdv hb hfr hlo hlt0 h4 HH hyy hyi hwk hyk hfk hb2 hbx hbl
   go_wp2_with fail
   go_region_with (first | ((go_at_call 170;refine (HI.out _).mono ?_;rintro r w1 ⟨rfl,hb1⟩;have hb1':Below wr.heap.size wr w1:=((Below.refl wr.heap.size wr).drew.trans hb1);have HB1:=hideS hb1';have c0:=(hb1'.cell (p:=⟨w.heap.size,0,none⟩) HZ.out.1).trans q0;have c1:=(hb1'.cell (p:=⟨w.heap.size,1,none⟩) HZ.out.1).trans q1;have c2:=(hb1'.cell (p:=⟨w.heap.size,2,none⟩) HZ.out.1).trans q2;have c3:=(hb1'.cell (p:=⟨w.heap.size,3,none⟩) HZ.out.1).trans q3;have cy1:=(hb1'.cell (p:=⟨b2,oy+k,none⟩) HZ.out.2.2).trans hcy;have HAd1:=hideS (HAd.out w1 hb1');clear hb1 hb1')) | ((go_at_call 99;refine HAd1.out.mono ?_;intro r w2 hend;obtain⟨neg',p4,l4,c4,e4,rfl,K4,hH⟩:=HPut.out w1 HB1.out w2 r hend;have HH:=hideS hH;have k0:=K4.c0;have k1:=K4.c1;have k2:=K4.c2;have k3:=K4.c3;have l0:=K4.f0;have l1:=K4.f1;have l2:=K4.f2;have l3:=K4.f3;clear hend hH K4)))
   all_goals
    go_wp2_with fail
    go_roundw
    case rel=>exact⟨k+1,by omega,by simp,HH⟩
    case measure=>simp [intOf];omega
  ·obtain rfl:k=n:=by omega
   obtain⟨pa,la,ca,rfl⟩:=hdn.shape
   have q0:=h4.c0
   have q1:=h4.c1
   have q2:=h4.c2
   have q3:=h4.c3
   have HV:=hideS (Jn _ neg _ M ee _ k d wr hdn hdv (zg (by omega)) hd hd')
   rw [El,HRes.out] at HV
   have HBl:=hideS hbl
   have hge:¬ (k:Int)<(k:Int):=by omega
   clear hdn hdv hb hfr hbl hlo hlt0 h4 HH
   go_wp2_with fail
   refine HV.out.mono ?_
   rintro r w1 ⟨rfl,hb⟩
   have HB1:=hideS (HBl.out.trans (hb.mono HBl.out.size))
   clear hb
   go_wp2_with fail
   go_ret
   exact⟨rfl,HB1.out⟩
end Go.Proofs.YtjjlnmihkadlmaaGreat
namespace Go.Proofs.YtjjlnmihkadlmaaGreat
open Go.RowKit

def jV (w:World) (kind:Int) (v1 v2:Value) (x k E:Int):Prop:=∀ wx,Below w.heap.size w wx→Calls Tryz.prog 138 #[.agg #[.int .i64 kind,v1,v2],.int .i64 x] wx fun e w'=>e=.returned (.tuple #[.int .i64 k,.int .i64 E])∧Below wx.heap.size wx w'
set_option maxHeartbeats 800000 in
theorem Jo (kind x k E:Int) (v1 v2:Value) (w:World) (hE:E≠0) (H:Hid (jV w kind v1 v2 x k E)) :
  Calls Tryz.prog 101 #[.agg #[.int .i64 kind,v1,v2],.int .i64 x] w fun e w'=>e=.returned (.tuple #[.int .u64 0,.int .i64 E])∧Below w.heap.size w w':=by
 have HB:=hideS (bL w kind v1 v2)
 have hE':(E !=0)=true:=bne_iff_ne.2 hE
 unfold jV at H
 clear hE
 go_enter Tryz.func101,Tryz.ntmps101
 go_wp2_with (go_at_call 138;refine (H.out _ HB.out.bl).mono ?_;rintro e w1 ⟨rfl,hb1⟩)
 go_ret2
 exact⟨rfl,(HB.out.step hb1).bl⟩
set_option maxHeartbeats 1600000 in
theorem Hg (kind x:Int) (bx ox cx b2 oy cy n k:Nat) (x0:Int) (y0:Nat) (w:World)
  (hR:∀ w',Below w.heap.size w w'→w'.cell? ⟨bx,ox+k,none⟩=some (.int .i64 x0)∧w'.cell? ⟨b2,oy+k,none⟩=some (.int .u64 (y0:Int)))
  (hk:k<n) (_:n≤256) (h:x0=x∨(x0≠x∧kind=1)) (H:Hid (jV w kind (.slice (some ⟨bx,ox,none⟩) n cx) (.slice (some ⟨b2,oy,none⟩) n cy) x (k:Int) 0)) :
  Calls Tryz.prog 101 #[.agg #[.int .i64 kind,.slice (some ⟨bx,ox,none⟩) n cx,.slice (some ⟨b2,oy,none⟩) n cy],.int .i64 x] w fun e w'=>e=.returned (.tuple #[.int .u64 (y0:Int),.int .i64 0])∧Below w.heap.size w w':=by
 have HB:=hideS (bL w kind (.slice (some ⟨bx,ox,none⟩) n cx) (.slice (some ⟨b2,oy,none⟩) n cy))
 unfold jV at H
 have HR:=hideS hR
 have g3:(0:Int)≤(k:Int):=by omega
 have g4:(k:Int)<(n:Int):=by omega
 clear hR
 rcases h with h | ⟨h,h'⟩
 ·subst h
  go_enter Tryz.func101,Tryz.ntmps101
  go_wp2_with fail
  refine (H.out _ HB.out.bl).mono ?_
  rintro e w1 ⟨rfl,hb1⟩
  have HB1:=hideS (HB.out.step hb1)
  clear hb1
  obtain⟨t0,t1,t2,_,_⟩:=HB1.out
  obtain⟨c0,c1⟩:=HR.out w1 HB1.out.bl
  go_wp2_with fail
  go_ret2
  exact⟨rfl,HB1.out.bl⟩
 ·subst h'
  have hx:(x0==x)=false:=beq_false_of_ne h
  go_enter Tryz.func101,Tryz.ntmps101
  go_wp2_with fail
  refine (H.out _ HB.out.bl).mono ?_
  rintro e w1 ⟨rfl,hb1⟩
  have HB1:=hideS (HB.out.step hb1)
  clear hb1
  obtain⟨t0,t1,t2,_,_⟩:=HB1.out
  obtain⟨c0,c1⟩:=HR.out w1 HB1.out.bl
  go_wp2_with fail
  go_ret2
  exact⟨rfl,HB1.out.bl⟩
theorem jW (w:World) (a b:Int):VSrc (w.alloc (.cells #[.int .i64 a,.int .i64 b] 3)) (some ⟨w.heap.size,0,none⟩) w.heap.size 0 2 (xV [a,b]):=
 ⟨fun _=>rfl,fun _=>by simp,fun j hj=>by
  rcases (show j=0∨j=1 by omega) with rfl | rfl
  ·simp [xV]
  ·simp [xV]⟩
structure ARd (w:World) (B:Nat) (kind:Int) (vx vy:Value) (bx ox b2 oy k:Nat) (x0 x1:Int) (y0 y1:Nat):Prop where
 t0:w.cell? ⟨B,0,none⟩=some (.int .i64 kind)
 t1:w.cell? ⟨B,1,none⟩=some vx
 t2:w.cell? ⟨B,2,none⟩=some vy
 a0:w.cell? ⟨bx,ox+k,none⟩=some (.int .i64 x0)
 a1:w.cell? ⟨bx,ox+(k+1),none⟩=some (.int .i64 x1)
 b0:w.cell? ⟨b2,oy+k,none⟩=some (.int .u64 (y0:Int))
 b1:w.cell? ⟨b2,oy+(k+1),none⟩=some (.int .u64 (y1:Int))
 ly:b2<w.heap.size
theorem TBox.drewN {w wr:World} {kind:Int} {vx vy:Value} (h:TBox w kind vx vy wr) (m:Nat):TBox w kind vx vy (wr.drewN m):=⟨h.t0,h.t1,h.t2,⟨h.bl.os,h.bl.tape,h.bl.output,h.bl.size,h.bl.block⟩,h.lt⟩
set_option maxHeartbeats 3200000 in
theorem Jp (x:Int) (bx ox cx b2 oy cy n k D:Nat) (x0 x1 i:Int) (y0 y1:Nat) (w:World)
  (hR:∀ w',TBox w 2 (.slice (some ⟨bx,ox,none⟩) n cx) (.slice (some ⟨b2,oy,none⟩) n cy) w'→ARd w' w.heap.size 2 (.slice (some ⟨bx,ox,none⟩) n cx) (.slice (some ⟨b2,oy,none⟩) n cy) bx ox b2 oy k x0 x1 y0 y1)
  (hk:k+1<n) (hn:n≤256) (hcy:n≤cy) (hcy':cy≤9223372036854775807) (h0:0≤x0) (h1:x1≤109572) (hD:x1 - x0=(D:Int)) (hi:x - x0=i) (hi0:0<i) (hi1:i<(D:Int)) (hy0:y0<18446744073709551616) (hy1:y1<18446744073709551616) (H:Hid (jV w 2 (.slice (some ⟨bx,ox,none⟩) n cx) (.slice (some ⟨b2,oy,none⟩) n cy) x (k:Int) 0)) :
  Calls Tryz.prog 101 #[.agg #[.int .i64 2,.slice (some ⟨bx,ox,none⟩) n cx,.slice (some ⟨b2,oy,none⟩) n cy],.int .i64 x] w fun e w'=>e=.returned (.tuple #[.int .u64 (aI (wAt [(D:Int) - i,i] [y0,y1] 2) D:Int),.int .i64 0])∧Below w.heap.size w w':=by
 have HB:=hideS (bL w 2 (.slice (some ⟨bx,ox,none⟩) n cx) (.slice (some ⟨b2,oy,none⟩) n cy))
 unfold jV at H
 have HR:=hideS hR
 have HBt:Hid (∀ wx,b2<wx.heap.size→wx.cell? ⟨b2,oy+k,none⟩=some (.int .u64 (y0:Int))→wx.cell? ⟨b2,oy+(k+1),none⟩=some (.int .u64 (y1:Int))→Calls Tryz.prog 139 #[.slice (some ⟨wx.heap.size,0,none⟩) 2 2,.slice (some ⟨b2,oy+k,none⟩) 2 (cy - k),.int .i64 (D:Int)] (wx.alloc (.cells #[.int .i64 ((D:Int) - i),.int .i64 i] 3)) fun e w'=>e=.returned (.int .u64 (aI (wAt [(D:Int) - i,i] [y0,y1] 2) D:Int))∧Below wx.heap.size wx w'):=fun wx hl c0 c1=>by
  have hbl:Below wx.heap.size wx (wx.alloc (.cells #[.int .i64 ((D:Int) - i),.int .i64 i] 3)):=(Below.refl _ _).alloc (Nat.le_refl _) _
  refine (gZ wx.heap.size 0 2 b2 (oy+k) (cy - k) 2 D [(D:Int) - i,i] [y0,y1] _ (jW wx _ _) ⟨fun _=>rfl,fun _=>Nat.lt_of_lt_of_le hl hbl.size,fun j hj=>?_⟩ (by omega) (by omega) (fun j hj=>?_) (fun j hj=>?_) (by omega) (by omega)).mono ?_
  ·rcases (show j=0∨j=1 by omega) with rfl | rfl
   ·exact (hbl.cell (p:=⟨b2,oy+k,none⟩) hl).trans c0
   ·rw [show oy+k+1=oy+(k+1) by omega];exact (hbl.cell (p:=⟨b2,oy+(k+1),none⟩) hl).trans c1
  ·rcases (show j=0∨j=1 by omega) with rfl | rfl
   ·show -9007199254740992≤(D:Int) - i∧_;exact⟨by omega,by show (D:Int) - i≤_;omega⟩
   ·show -9007199254740992≤i∧i≤_;omega
  ·rcases (show j=0∨j=1 by omega) with rfl | rfl
   ·exact hy0
   ·exact hy1
  ·rintro e w' ⟨rfl,hb⟩
   exact⟨rfl,hbl.trans (hb.mono hbl.size)⟩
 generalize aI (wAt [(D:Int) - i,i] [y0,y1] 2) D=R at *
 have f1:IntKind.i64.wrap ((k:Int)+1)=(k:Int)+1:=by rw [IntKind.wrap_i64];omega
 have f2:IntKind.i64.wrap (x1 - x0)=x1 - x0:=by rw [IntKind.wrap_i64];omega
 have g1:(0:Int)≤(k:Int)+1:=by omega
 have g2:(k:Int)+1<(n:Int):=by omega
 have g3:(0:Int)≤(k:Int):=by omega
 have g4:(k:Int)<(n:Int):=by omega
 have hx:(x0==x)=false:=beq_false_of_ne (by omega)
 have hDl:(D:Int)≤109572:=by omega
 clear hR hy0 hy1
 go_enter Tryz.func101,Tryz.ntmps101
 go_wp2_with fail
 refine (H.out _ HB.out.bl).mono ?_
 rintro e w1 ⟨rfl,hb1⟩
 have HB1:=hideS (HB.out.step hb1)
 clear hb1
 have hA:=HR.out w1 HB1.out
 obtain⟨t0,t1,t2,a0,a1,b0,b1,ly⟩:=hA
 go_wp2_with fail
 go_quiet (fail)
 obtain⟨wq,hwq⟩:∃ wq,w1.drewN nq=wq:=⟨_,rfl⟩
 rw [hwq]
 have HBq:Hid (TBox w 2 (.slice (some ⟨bx,ox,none⟩) n cx) (.slice (some ⟨b2,oy,none⟩) n cy) wq):=by show TBox _ _ _ _ _;rw [← hwq];exact HB1.out.drewN nq
 clear hwq t0 t1 t2 a0 a1 b0 b1 ly HB1
 obtain⟨t0,t1,t2,a0,a1,b0,b1,ly⟩:=HR.out wq HBq.out
 have hz:w.heap.size<wq.heap.size:=HBq.out.lt
 have c2:∀ o,(wq.alloc o).cell? ⟨w.heap.size,2,none⟩=some (.slice (some ⟨b2,oy,none⟩) n cy):=fun o=>(((Below.refl wq.heap.size wq).alloc (Nat.le_refl _) o).cell (p:=⟨w.heap.size,2,none⟩) hz).trans t2
 have HBw:=hideS (HBt.out wq ly b0 b1)
 have f3:IntKind.i64.wrap (x - x0)=x - x0:=by rw [IntKind.wrap_i64];omega
 have f4:IntKind.i64.wrap ((k:Int)+2)=(k:Int)+2:=by rw [IntKind.wrap_i64];omega
 have g7:(k:Int)+2≤(n:Int):=by omega
 have g8:(k:Int)≤(k:Int)+2:=by omega
 have g9:(k:Int)+2≤(cy:Int):=by omega
 go_wp2_with fail
 refine HBw.out.mono ?_
 rintro e w2 ⟨rfl,hb2⟩
 have HB2:=hideS (HBq.out.step hb2)
 clear hb2
 go_wp2_with fail
 go_ret2
 exact⟨rfl,HB2.out.bl⟩
theorem oR {a b A B:Int} (ha:0≤a) (hA:a≤A) (hb:0≤b) (hB:b≤B):0≤a*b∧a*b≤A*B:=⟨Int.mul_nonneg ha hb,Int.mul_le_mul hA hB hb (by omega)⟩
theorem Eq (w:World) (a b c d:Int):VSrc (w.alloc (.cells #[.int .i64 a,.int .i64 b,.int .i64 c,.int .i64 d] 3)) (some ⟨w.heap.size,0,none⟩) w.heap.size 0 4 (xV [a,b,c,d]):=
 ⟨fun _=>rfl,fun _=>by simp,fun j hj=>by
  rcases (show j=0∨j=1∨j=2∨j=3 by omega) with rfl | rfl | rfl | rfl
  ·simp [xV]
  ·simp [xV]
  ·simp [xV]
  ·simp [xV]⟩
structure CubW (D i e q1 q2 r1 r2 r3 s2 s3 t1 t2 n1 n2:Int):Prop where
 hq1:e*e=q1
 hq2:q1*e=q2
 hr1:3*e=r1
 hr2:r1*e=r2
 hr3:r2*i=r3
 hs2:r1*i=s2
 hs3:s2*i=s3
 ht1:i*i=t1
 ht2:t1*i=t2
 hn1:D*D=n1
 hn2:n1*D=n2
 b:(0≤q1∧q1≤12006023184)∧(0≤q2∧q2≤1315523972317248)∧(0≤r1∧r1≤328716)∧(0≤r2∧r2≤36018069552)∧(0≤r3∧r3≤3946571916951744)∧(0≤s2∧s2≤36018069552)∧(0≤s3∧s3≤3946571916951744)∧(0≤t1∧t1≤12006023184)∧(0≤t2∧t2≤1315523972317248)∧(0≤n1∧n1≤12006023184)∧(0≤n2∧n2≤1315523972317248)
theorem rR {D i e:Int} (h0:0≤i) (hi:i≤109572) (he0:0≤e) (he:e≤109572) (hD0:0≤D) (hD:D≤109572):∃ q1 q2 r1 r2 r3 s2 s3 t1 t2 n1 n2,CubW D i e q1 q2 r1 r2 r3 s2 s3 t1 t2 n1 n2:=by
 have m1:=oR he0 he he0 he
 have m2:=oR m1.1 m1.2 he0 he
 have m4:=oR (show 0≤3*e by omega) (show 3*e≤328716 by omega) he0 he
 have m5:=oR m4.1 m4.2 h0 hi
 have m6:=oR (show 0≤3*e by omega) (show 3*e≤328716 by omega) h0 hi
 have m7:=oR m6.1 m6.2 h0 hi
 have m8:=oR h0 hi h0 hi
 have m9:=oR m8.1 m8.2 h0 hi
 have m10:=oR hD0 hD hD0 hD
 have m11:=oR m10.1 m10.2 hD0 hD
 exact⟨_,_,_,_,_,_,_,_,_,_,_,rfl,rfl,rfl,rfl,rfl,rfl,rfl,rfl,rfl,rfl,rfl,m1,m2,⟨by omega,by omega⟩,m4,m5,m6,m7,m8,m9,m10,m11⟩
set_option maxHeartbeats 6400000 in
theorem Jq (x:Int) (bx ox cx b2 oy cy n k D D3:Nat) (x0 x1 i e q1 q2 r1 r2 r3 s2 s3 t1' t2' n1:Int) (ps:List Nat) (w:World)
  (hR:∀ w',TBox w 3 (.slice (some ⟨bx,ox,none⟩) n cx) (.slice (some ⟨b2,oy,none⟩) n cy) w'→w'.cell? ⟨bx,ox+k,none⟩=some (.int .i64 x0)∧w'.cell? ⟨bx,ox+(k+1),none⟩=some (.int .i64 x1))
  (hk:k+1<n) (hn:n≤256) (h0:0≤x0) (h1:x1≤109572) (hD:x1 - x0=(D:Int)) (hi:x - x0=i) (he:(D:Int) - i=e) (hi0:0<i) (hi1:i<(D:Int)) (hC:CubW (D:Int) i e q1 q2 r1 r2 r3 s2 s3 t1' t2' n1 (D3:Int)) (hD3:1≤D3) (hps:ps.length=4) (hpl:∀ j<4,ps.getD j 0<18446744073709551616)
  (H:Hid (jV w 3 (.slice (some ⟨bx,ox,none⟩) n cx) (.slice (some ⟨b2,oy,none⟩) n cy) x (k:Int) 0))
  (HPt:Hid (∀ wx,Below w.heap.size w wx→Calls Tryz.prog 140 #[.agg #[.int .i64 3,.slice (some ⟨bx,ox,none⟩) n cx,.slice (some ⟨b2,oy,none⟩) n cy],.int .i64 (k:Int)] wx fun e w'=>∃ v,e=.returned (.tuple #[v,.int .i64 0])∧w'.ownsRow wx.heap.size 57 1 v 4 (ps.map uV)∧Below wx.heap.size wx w')) :
  Calls Tryz.prog 101 #[.agg #[.int .i64 3,.slice (some ⟨bx,ox,none⟩) n cx,.slice (some ⟨b2,oy,none⟩) n cy],.int .i64 x] w fun e w'=>e=.returned (.tuple #[.int .u64 (aI (wAt [q2,r3,s3,t2'] ps 4) D3:Int),.int .i64 0])∧Below w.heap.size w w':=by
 have HB:=hideS (bL w 3 (.slice (some ⟨bx,ox,none⟩) n cx) (.slice (some ⟨b2,oy,none⟩) n cy))
 unfold jV at H
 have HR:=hideS hR
 obtain⟨hq1,hq2,hr1,hr2,hr3,hs2,hs3,ht1,ht2,hn1,hn2,⟨p1,p1'⟩,⟨p2,p2'⟩,⟨p3,p3'⟩,⟨p4,p4'⟩,⟨p5,p5'⟩,⟨p6,p6'⟩,⟨p7,p7'⟩,⟨p8,p8'⟩,⟨p9,p9'⟩,⟨p10,p10'⟩,⟨p11,p11'⟩⟩:=hC
 have HBt:Hid (∀ wx g c,g<wx.heap.size→(∀ j<4,wx.cell? ⟨g,j,none⟩=some (.int .u64 (ps.getD j 0:Nat)))→Calls Tryz.prog 139 #[.slice (some ⟨wx.heap.size,0,none⟩) 4 4,.slice (some ⟨g,0,none⟩) 4 c,.int .i64 (D3:Int)] (wx.alloc (.cells #[.int .i64 q2,.int .i64 r3,.int .i64 s3,.int .i64 t2'] 3)) fun e w'=>e=.returned (.int .u64 (aI (wAt [q2,r3,s3,t2'] ps 4) D3:Int))∧Below wx.heap.size wx w'):=fun wx g c hl hc=>by
  have hbl:Below wx.heap.size wx (wx.alloc (.cells #[.int .i64 q2,.int .i64 r3,.int .i64 s3,.int .i64 t2'] 3)):=(Below.refl _ _).alloc (Nat.le_refl _) _
  refine (gZ wx.heap.size 0 4 g 0 c 4 D3 [q2,r3,s3,t2'] ps _ (Eq wx _ _ _ _) ⟨fun _=>rfl,fun _=>Nat.lt_of_lt_of_le hl hbl.size,fun j hj=>?_⟩ (by omega) (by omega) (fun j hj=>?_) hpl hD3 (by omega)).mono ?_
  ·rw [Nat.zero_add];exact (hbl.cell (p:=⟨g,j,none⟩) hl).trans (hc j hj)
  ·rcases (show j=0∨j=1∨j=2∨j=3 by omega) with rfl | rfl | rfl | rfl
   ·show -9007199254740992≤q2∧q2≤_;omega
   ·show -9007199254740992≤r3∧r3≤_;omega
   ·show -9007199254740992≤s3∧s3≤_;omega
   ·show -9007199254740992≤t2'∧t2'≤_;omega
  ·rintro e w' ⟨rfl,hb⟩
   exact⟨rfl,hbl.trans (hb.mono hbl.size)⟩
 generalize aI (wAt [q2,r3,s3,t2'] ps 4) D3=R at *
 have HPS:=hideS (And.intro hps hpl)
 have f1:IntKind.i64.wrap ((k:Int)+1)=(k:Int)+1:=by rw [IntKind.wrap_i64];omega
 have f2:IntKind.i64.wrap (x1 - x0)=x1 - x0:=by rw [IntKind.wrap_i64];omega
 have f3:IntKind.i64.wrap (x - x0)=x - x0:=by rw [IntKind.wrap_i64];omega
 have g1:(0:Int)≤(k:Int)+1:=by omega
 have g2:(k:Int)+1<(n:Int):=by omega
 have g3:(0:Int)≤(k:Int):=by omega
 have g4:(k:Int)<(n:Int):=by omega
 have hx:(x0==x)=false:=beq_false_of_ne (by omega)
 have hDl:(D:Int)≤109572:=by omega
 have he0:0≤e:=by omega
 have he1:e≤109572:=by omega
 clear hR hps hpl
 go_enter Tryz.func101,Tryz.ntmps101
 go_wp2_with fail
 refine (H.out _ HB.out.bl).mono ?_
 rintro e w1 ⟨rfl,hb1⟩
 have HB1:=hideS (HB.out.step hb1)
 clear hb1
 obtain⟨a0,a1⟩:=HR.out w1 HB1.out
 obtain⟨t0,t1,t2,_,_⟩:=HB1.out
 go_wp2_with fail
 go_quiet (fail)
 obtain⟨wq,hwq⟩:∃ wq,w1.drewN nq=wq:=⟨_,rfl⟩
 rw [hwq]
 have HBq:Hid (TBox w 3 (.slice (some ⟨bx,ox,none⟩) n cx) (.slice (some ⟨b2,oy,none⟩) n cy) wq):=by show TBox _ _ _ _ _;rw [← hwq];exact HB1.out.drewN nq
 clear hwq t0 t1 t2 a0 a1 HB1
 obtain⟨a0,a1⟩:=HR.out wq HBq.out
 obtain⟨t0,t1,t2,_,_⟩:=HBq.out
 go_wp2_with fail
 refine (HPt.out _ HBq.out.bl).mono ?_
 rintro e w2 ⟨v,rfl,ho,hb2⟩
 obtain⟨pp,g,c,rfl,hu,_,_,_⟩:=bY ho HPS.out.1
 obtain rfl:=hu.at_ (by rw [HPS.out.1];omega)
 have HB2:=hideS (HBq.out.step hb2)
 have HBw:=hideS (HBt.out w2 g c (hu.lt (by rw [HPS.out.1];omega)) (fun j hj=>by have:=hu.cell j (by rw [HPS.out.1];exact hj);rw [Nat.zero_add] at this;exact this))
 clear hb2 ho hu t0 t1 t2 a0 a1 HBq HBt HPt
 go_wp2_with fail
 refine HBw.out.mono ?_
 rintro e w3 ⟨rfl,hb3⟩
 have HB3:=hideS (HB2.out.step hb3)
 clear hb3
 go_wp2_with fail
 go_ret2
 exact⟨rfl,HB3.out.bl⟩
end Go.Proofs.YtjjlnmihkadlmaaGreat
namespace Go.Proofs.YtjjlnmihkadlmaaGreat
open Go.RowKit

theorem Bm {a b:Int} {p q:Nat} (h1:a+1074=(p:Int)) (h2:b+1074=(q:Int)):(a+b+2148).toNat=p+q:=by omega
theorem Bn {x y:Nat} (hx:x<18446744073709551616) (hxn:af x) (hy:y<18446744073709551616) (hyn:af y):A.bp x y=⟨0,vI x*vI y⟩:=by
 obtain⟨o1,q1,e1,f1⟩:=Ev hx hxn
 obtain⟨o2,q2,e2,f2⟩:=Ev hy hyn
 have e0:A.bp x y=A.fC (x:Int) (y:Int):=by unfold A.bp;rw [o1,o2];rfl
 have key:az (x:Int)*az (y:Int)*2^(aM (x:Int)+aM (y:Int)+2148).toNat=vI x*vI y:=by
  rw [← e1,← e2]
  by_cases h1:az (x:Int)=0
  ·rw [h1,Int.zero_mul,Int.zero_mul,Int.zero_mul,Int.zero_mul]
  ·by_cases h2:az (y:Int)=0
   ·rw [h2,Int.zero_mul,Int.mul_zero,Int.zero_mul,Int.mul_zero]
   ·have a:=f1 h1
    have b:=f2 h2
    rw [Bm a b,Int.pow_add,Int.natCast_pow,Int.natCast_pow]
    clear e0 e1 e2 f1 f2 a b h1 h2 o1 o2
    generalize az (x:Int)=m
    generalize az (y:Int)=k
    show m*k*(2^q1*2^q2)=m*2^q1*(k*2^q2)
    generalize (2:Int)^q1=s
    generalize (2:Int)^q2=t
    simp only [Int.mul_assoc,Int.mul_left_comm k]
 rw [e0]
 exact congrArg (A.St.mk 0) key
theorem fG {m:Int} {y K:Nat} (hK:K=1074) (h1: -9007199254740992≤m) (h2:m≤9007199254740992) (hy:y<18446744073709551616) (hyn:af y):A.bp (fi m) y=⟨0,m*uI K y⟩:=by
 obtain⟨a,b,c,d⟩:=mP (m:=m) hK h1 h2
 rw [Bn d b hy hyn,a]
 unfold uI
 congr 1
 rw [Int.mul_assoc,Int.mul_comm (((2^K:Nat)):Int)]
theorem kI (a b:Int):A.St.merge ⟨0,a⟩ ⟨0,b⟩=⟨0,a+b⟩:=rfl
theorem rV {a b:Int} {y0 y1 K:Nat} (hK:K=1074) (ha: -9007199254740992≤a∧a≤9007199254740992) (hb: -9007199254740992≤b∧b≤9007199254740992) (h0:y0<18446744073709551616) (n0:af y0) (h1:y1<18446744073709551616) (n1:af y1):wAt [a,b] [y0,y1] 2=⟨0,a*uI K y0+b*uI K y1⟩:=by
 show ((⟨0,0⟩:A.St).merge (A.bp (fi a) y0)).merge (A.bp (fi b) y1)=_
 rw [fG hK ha.1 ha.2 h0 n0,fG hK hb.1 hb.2 h1 n1,kI,kI,Int.zero_add]
theorem uB {a b c d:Int} {y0 y1 y2 y3 K:Nat} (hK:K=1074) (ha: -9007199254740992≤a∧a≤9007199254740992) (hb: -9007199254740992≤b∧b≤9007199254740992) (hc: -9007199254740992≤c∧c≤9007199254740992) (hd: -9007199254740992≤d∧d≤9007199254740992) (h0:y0<18446744073709551616) (n0:af y0) (h1:y1<18446744073709551616) (n1:af y1) (h2:y2<18446744073709551616) (n2:af y2) (h3:y3<18446744073709551616) (n3:af y3):wAt [a,b,c,d] [y0,y1,y2,y3] 4=⟨0,a*uI K y0+b*uI K y1+c*uI K y2+d*uI K y3⟩:=by
 show ((((⟨0,0⟩:A.St).merge (A.bp (fi a) y0)).merge (A.bp (fi b) y1)).merge (A.bp (fi c) y2)).merge (A.bp (fi d) y3)=_
 rw [fG hK ha.1 ha.2 h0 n0,fG hK hb.1 hb.2 h1 n1,fG hK hc.1 hc.2 h2 n2,fG hK hd.1 hd.2 h3 n3,kI,kI,kI,kI,Int.zero_add]
theorem jm (N:Int) (d:Nat):aI ⟨0,N⟩ d=overG N d:=by
 unfold aI overG
 rw [if_pos rfl,kH]
end Go.Proofs.YtjjlnmihkadlmaaGreat
namespace Go.Proofs.YtjjlnmihkadlmaaGreat
open Go.RowKit

structure Inside (xs:List Int) (x:Int) (k D:Nat) (i:Int):Prop where
 lt:k+1<xs.length
 hD:xs.getD (k+1) 0 - xs.getD k 0=(D:Int)
 hi:x - xs.getD k 0=i
 lo:0<i
 hi':i<(D:Int)
theorem Bo {xs:List Int} {x:Int} {k:Nat} (hhi:x≤xs.getD (xs.length - 1) 0) (hk:FindR xs x k) (hne:xs.getD k 0≠x):∃ D i,Inside xs x k D i:=by
 have hle:=hk.le
 have hl:k+1<xs.length:=Classical.byContradiction fun c=>by
  have hkl:=hk.lt
  rw [show xs.length - 1=k by omega] at hhi
  omega
 have hg:=hk.gt hl
 exact⟨(xs.getD (k+1) 0 - xs.getD k 0).toNat,_,hl,by omega,rfl,by omega,by omega⟩
def linV (ys:List Nat) (k D:Nat) (i:Int):Nat:=aI (wAt [(D:Int) - i,i] [ys.getD k 0,ys.getD (k+1) 0] 2) D
theorem uC (kind x k E:Int) (px py:Option Addr) (bx ox cx b2 oy cy:Nat) (xs:List Int) (ys:List Nat) (w:World) (h:FindO kind xs ys x k E) (hE:E≠0) (hs:TSrc w px py bx ox b2 oy xs ys) :
  Calls Tryz.prog 101 #[.agg #[.int .i64 kind,.slice px xs.length cx,.slice py ys.length cy],.int .i64 x] w fun e w'=>e=.returned (.tuple #[.int .u64 0,.int .i64 E])∧Below w.heap.size w w':=
 Jo kind x k E _ _ w hE (fun wx hb=>cC kind x k E px py bx ox cx b2 oy cy xs ys wx h (hs.below hb))
theorem jX (kind x:Int) (px py:Option Addr) (bx ox cx b2 oy cy n k:Nat) (xs:List Int) (ys:List Nat) (w:World) (h:OkT kind xs ys) (hn:xs.length=n) (hf:FindO kind xs ys x (k:Int) 0) (hk:k<n) (hne:xs.getD k 0=x∨(xs.getD k 0≠x∧kind=1)) (hs:TSrc w px py bx ox b2 oy xs ys) :
  Calls Tryz.prog 101 #[.agg #[.int .i64 kind,.slice px n cx,.slice py n cy],.int .i64 x] w fun e w'=>e=.returned (.tuple #[.int .u64 (ys.getD k 0:Nat),.int .i64 0])∧Below w.heap.size w w':=by
 have hyl:=h.len
 have hhi:=h.hi
 have H:jV w kind (.slice px n cx) (.slice py n cy) x (k:Int) 0:=fun wx hb=>by
  have:=cC kind x k 0 px py bx ox cx b2 oy cy xs ys wx hf (hs.below hb)
  rw [hyl,hn] at this
  exact this
 obtain rfl:=hs.x.at_ (by omega)
 obtain rfl:=hs.y.at_ (by omega)
 exact Hg kind x bx ox cx b2 oy cy n k (xs.getD k 0) (ys.getD k 0) w (fun w' hb=>⟨(hs.below hb).x.cell k (by omega),(hs.below hb).y.cell k (by omega)⟩) hk (by omega) hne H
theorem uD (x:Int) (px py:Option Addr) (bx ox cx b2 oy cy n k D:Nat) (i:Int) (xs:List Int) (ys:List Nat) (w:World) (h:OkT 2 xs ys) (hn:xs.length=n) (hf:FindO 2 xs ys x (k:Int) 0) (hI:Inside xs x k D i) (hcy:n≤cy) (hcy':cy≤9223372036854775807) (hs:TSrc w px py bx ox b2 oy xs ys) :
  Calls Tryz.prog 101 #[.agg #[.int .i64 2,.slice px n cx,.slice py n cy],.int .i64 x] w fun e w'=>e=.returned (.tuple #[.int .u64 (linV ys k D i:Int),.int .i64 0])∧Below w.heap.size w w':=by
 have hyl:=h.len
 have hhi:=h.hi
 have hlt:=hI.lt
 have H:jV w 2 (.slice px n cx) (.slice py n cy) x (k:Int) 0:=fun wx hb=>by
  have:=cC 2 x k 0 px py bx ox cx b2 oy cy xs ys wx hf (hs.below hb)
  rw [hyl,hn] at this
  exact this
 obtain rfl:=hs.x.at_ (by omega)
 obtain rfl:=hs.y.at_ (by omega)
 have n0:=ao (h.node k (by omega))
 have n1:=ao (h.node (k+1) (by omega))
 exact Jp x bx ox cx b2 oy cy n k D (xs.getD k 0) (xs.getD (k+1) 0) i (ys.getD k 0) (ys.getD (k+1) 0) w (fun w' ht=>by
   have hs':=hs.below ht.bl
   exact⟨ht.t0,ht.t1,ht.t2,hs'.x.cell k (by omega),hs'.x.cell (k+1) (by omega),hs'.y.cell k (by omega),hs'.y.cell (k+1) (by omega),hs'.y.lt (by omega)⟩)
  (by omega) (by omega) hcy hcy' n0.1 n1.2.1 hI.hD hI.hi hI.lo hI.hi' (by have:=(hs.f k (by omega)).2;omega) (by have:=(hs.f (k+1) (by omega)).2;omega) H
def xI (ps:List Nat) (D:Nat) (i:Int):Nat:=aI (wAt [((D:Int) - i)*((D:Int) - i)*((D:Int) - i),3*((D:Int) - i)*((D:Int) - i)*i,3*((D:Int) - i)*i*i,i*i*i] ps 4) (D*D*D)
theorem Ju {xs:List Int} {ys:List Nat} {k:Nat} (h0:ys.getD k 0<18446744073709551616) (h1:ys.getD (k+1) 0<18446744073709551616):∀ j<4,(ptL xs ys k).getD j 0<18446744073709551616:=fun j hj=>by
 rcases (show j=0∨j=1∨j=2∨j=3 by omega) with rfl | rfl | rfl | rfl
 ·exact h0
 ·exact xp h0 h1
 ·exact Ji h1 (xp h0 h1)
 ·exact h1
theorem uE (x:Int) (px py:Option Addr) (bx ox cx b2 oy cy n k D:Nat) (i:Int) (xs:List Int) (ys:List Nat) (w:World) (h:OkT 3 xs ys) (hn:xs.length=n) (hf:FindO 3 xs ys x (k:Int) 0) (hI:Inside xs x k D i) (hs:TSrc w px py bx ox b2 oy xs ys) :
  Calls Tryz.prog 101 #[.agg #[.int .i64 3,.slice px n cx,.slice py n cy],.int .i64 x] w fun e w'=>e=.returned (.tuple #[.int .u64 (xI (ptL xs ys k) D i:Int),.int .i64 0])∧Below w.heap.size w w':=by
 have hyl:=h.len
 have hhi:=h.hi
 have hlt:=hI.lt
 have H:jV w 3 (.slice px n cx) (.slice py n cy) x (k:Int) 0:=fun wx hb=>by
  have:=cC 3 x k 0 px py bx ox cx b2 oy cy xs ys wx hf (hs.below hb)
  rw [hyl,hn] at this
  exact this
 have HP:∀ wx,Below w.heap.size w wx→Calls Tryz.prog 140 #[.agg #[.int .i64 3,.slice px n cx,.slice py n cy],.int .i64 (k:Int)] wx fun e w'=>∃ v,e=.returned (.tuple #[v,.int .i64 0])∧w'.ownsRow wx.heap.size 57 1 v 4 ((ptL xs ys k).map uV)∧Below wx.heap.size wx w':=fun wx hb=>nj 3 px py bx ox cx b2 oy cy n k xs ys wx h hn (hs.below hb) (by omega)
 obtain rfl:=hs.x.at_ (by omega)
 obtain rfl:=hs.y.at_ (by omega)
 have n0:=ao (h.node k (by omega))
 have n1:=ao (h.node (k+1) (by omega))
 have hD:=hI.hD
 have hlo:=hI.lo
 have hi':=hI.hi'
 have hy0:ys.getD k 0<18446744073709551616:=by have:=(hs.f k (by omega)).2;omega
 have hy1:ys.getD (k+1) 0<18446744073709551616:=by have:=(hs.f (k+1) (by omega)).2;omega
 obtain⟨q1,q2,r1,r2,r3,s2,s3,t1,t2,m1,m2,hC⟩:=rR (D:=(D:Int)) (i:=i) (e:=(D:Int) - i) (by omega) (by omega) (by omega) (by omega) (by omega) (by omega)
 have e3:m2=((D*D*D:Nat):Int):=by rw [← hC.hn2,← hC.hn1,Int.natCast_mul,Int.natCast_mul]
 rw [e3] at hC
 have hD3:1≤D*D*D:=Nat.mul_pos (Nat.mul_pos (by omega) (by omega)) (by omega)
 unfold xI
 rw [hC.hq1,hC.hq2,hC.hr1,hC.hr2,hC.hr3,hC.hs2,hC.hs3,hC.ht1,hC.ht2]
 exact Jq x bx ox cx b2 oy cy n k D (D*D*D) (xs.getD k 0) (xs.getD (k+1) 0) i ((D:Int) - i) q1 q2 r1 r2 r3 s2 s3 t1 t2 m1 (ptL xs ys k) w (fun w' ht=>by
   have hs':=hs.below ht.bl
   exact⟨hs'.x.cell k (by omega),hs'.x.cell (k+1) (by omega)⟩)
  (by omega) (by omega) n0.1 n1.2.1 hD hI.hi rfl hlo hi' hC hD3 rfl (Ju hy0 hy1) H HP
end Go.Proofs.YtjjlnmihkadlmaaGreat
namespace Go.Proofs.YtjjlnmihkadlmaaGreat
open Go.RowKit

structure NumW (y:Nat):Prop where
 lt:y<18446744073709551616
 nb:af y
theorem kJ {y0 y1 D K:Nat} {i:Int} (hK:K=1074) (h0:NumW y0) (h1:NumW y1) (hi:0≤i) (hi':i≤(D:Int)) (hD:(D:Int)≤109572):aI (wAt [(D:Int) - i,i] [y0,y1] 2) D=overG (dI (D:Int) i (uI K y0) (uI K y1)) D:=by
 rw [rV hK ⟨by omega,by omega⟩ ⟨by omega,by omega⟩ h0.lt h0.nb h1.lt h1.nb,jm]
 rfl
theorem qe {p0 p1 p2 p3 D K:Nat} {i:Int} (hK:K=1074) (h0:NumW p0) (h1:NumW p1) (h2:NumW p2) (h3:NumW p3) (hi:0≤i) (hi':i≤(D:Int)) (hD:(D:Int)≤109572):xI [p0,p1,p2,p3] D i=overG (dF (D:Int) i (uI K p0) (uI K p1) (uI K p2) (uI K p3)) (D*D*D):=by
 obtain⟨q1,q2,r1,r2,r3,s2,s3,t1,t2,m1,m2,hC⟩:=rR (D:=(D:Int)) (i:=i) (e:=(D:Int) - i) (by omega) (by omega) (by omega) (by omega) (by omega) (by omega)
 unfold xI dF
 rw [hC.hq1,hC.hq2,hC.hr1,hC.hr2,hC.hr3,hC.hs2,hC.hs3,hC.ht1,hC.ht2]
 obtain⟨⟨_,_⟩,⟨b1,b1'⟩,⟨_,_⟩,⟨_,_⟩,⟨b2,b2'⟩,⟨_,_⟩,⟨b3,b3'⟩,⟨_,_⟩,⟨b4,b4'⟩,_,_⟩:=hC.b
 rw [uB hK ⟨by omega,by omega⟩ ⟨by omega,by omega⟩ ⟨by omega,by omega⟩ ⟨by omega,by omega⟩ h0.lt h0.nb h1.lt h1.nb h2.lt h2.nb h3.lt h3.nb,jm]
theorem IN (D:Nat):((D*D*D:Nat):Int)=(D:Int)*(D:Int)*(D:Int):=by rw [Int.natCast_mul,Int.natCast_mul]
theorem uF {y0 y1 D K:Nat} {i:Int} (hK:K=1074) (h0:NumW y0) (h1:NumW y1) (hi:0≤i) (hi':i≤(D:Int)) (hD0:0<D) (h:ae (y0:Nat)≤ae (y1:Nat)) :
  ae (y0:Nat)≤fc (dI (D:Int) i (uI K y0) (uI K y1)) D∧fc (dI (D:Int) i (uI K y0) (uI K y1)) D≤ae (y1:Nat):=by
 have hu:=lw K h0.lt h0.nb h1.lt h1.nb h
 have hl:=Es (n:=(D:Int)) hi hi' hu
 exact⟨zp hK h0.lt h0.nb hD0 hl.1,zq hK h1.lt h1.nb hD0 hl.2⟩
theorem oS {y0 y1 D K:Nat} {i:Int} (hK:K=1074) (h0:NumW y0) (h1:NumW y1) (hi:0≤i) (hi':i≤(D:Int)) (hD0:0<D) (h:ae (y1:Nat)≤ae (y0:Nat)) :
  ae (y1:Nat)≤fc (dI (D:Int) i (uI K y0) (uI K y1)) D∧fc (dI (D:Int) i (uI K y0) (uI K y1)) D≤ae (y0:Nat):=by
 have hu:=lw K h1.lt h1.nb h0.lt h0.nb h
 have hl:=Jt (n:=(D:Int)) hi hi' hu
 exact⟨zp hK h1.lt h1.nb hD0 hl.1,zq hK h0.lt h0.nb hD0 hl.2⟩
structure Up4 (p0 p1 p2 p3:Nat):Prop where
 n0:NumW p0
 n1:NumW p1
 n2:NumW p2
 n3:NumW p3
 r1:ae (p0:Nat)≤ae (p1:Nat)
 r2:ae (p1:Nat)≤ae (p2:Nat)
 r3:ae (p2:Nat)≤ae (p3:Nat)
theorem uG {p0 p1 p2 p3 D K:Nat} {i:Int} (hK:K=1074) (h:Up4 p0 p1 p2 p3) (hi:0≤i) (hi':i≤(D:Int)) (hD0:0<D) :
  ae (p0:Nat)≤fc (dF (D:Int) i (uI K p0) (uI K p1) (uI K p2) (uI K p3)) (D*D*D)∧fc (dF (D:Int) i (uI K p0) (uI K p1) (uI K p2) (uI K p3)) (D*D*D)≤ae (p3:Nat):=by
 have u1:=lw K h.n0.lt h.n0.nb h.n1.lt h.n1.nb h.r1
 have u2:=lw K h.n1.lt h.n1.nb h.n2.lt h.n2.nb h.r2
 have u3:=lw K h.n2.lt h.n2.nb h.n3.lt h.n3.nb h.r3
 have hl:=Jr (n:=(D:Int)) hi hi' u1 u2 u3
 have hp:0<D*D*D:=Nat.mul_pos (Nat.mul_pos hD0 hD0) hD0
 rw [← IN] at hl
 exact⟨zp hK h.n0.lt h.n0.nb hp hl.1,zq hK h.n3.lt h.n3.nb hp hl.2⟩
structure Down4 (p0 p1 p2 p3:Nat):Prop where
 n0:NumW p0
 n1:NumW p1
 n2:NumW p2
 n3:NumW p3
 r1:ae (p1:Nat)≤ae (p0:Nat)
 r2:ae (p2:Nat)≤ae (p1:Nat)
 r3:ae (p3:Nat)≤ae (p2:Nat)
theorem oT {p0 p1 p2 p3 D K:Nat} {i:Int} (hK:K=1074) (h:Down4 p0 p1 p2 p3) (hi:0≤i) (hi':i≤(D:Int)) (hD0:0<D) :
  ae (p3:Nat)≤fc (dF (D:Int) i (uI K p0) (uI K p1) (uI K p2) (uI K p3)) (D*D*D)∧fc (dF (D:Int) i (uI K p0) (uI K p1) (uI K p2) (uI K p3)) (D*D*D)≤ae (p0:Nat):=by
 have u1:=lw K h.n1.lt h.n1.nb h.n0.lt h.n0.nb h.r1
 have u2:=lw K h.n2.lt h.n2.nb h.n1.lt h.n1.nb h.r2
 have u3:=lw K h.n3.lt h.n3.nb h.n2.lt h.n2.nb h.r3
 have hl:=Js (n:=(D:Int)) hi hi' u1 u2 u3
 have hp:0<D*D*D:=Nat.mul_pos (Nat.mul_pos hD0 hD0) hD0
 rw [← IN] at hl
 exact⟨zp hK h.n3.lt h.n3.nb hp hl.1,zq hK h.n0.lt h.n0.nb hp hl.2⟩
end Go.Proofs.YtjjlnmihkadlmaaGreat
namespace Go.Proofs.YtjjlnmihkadlmaaGreat
open Go.RowKit

structure NN (x:Nat):Prop where
 lt:x<18446744073709551616
 le:x % 9223372036854775808≤9218868437227405312
theorem NN.cases {x:Nat} (h:NN x):af x∨x % 9223372036854775808=9218868437227405312:=by
 unfold af;have:=h.le;omega
theorem NN.nan {x:Nat} (h:NN x):ag (x:Nat)=false:=by
 unfold ag szI;rw [decide_eq_false_iff_not];have:=h.le;omega
theorem KP {x:Nat} (hlt:x<18446744073709551616) (h:ag (x:Nat)=false):NN x:=by
 unfold ag szI at h;rw [decide_eq_false_iff_not] at h;exact⟨hlt,by omega⟩
theorem NumW.nn {x:Nat} (h:NumW x):NN x:=⟨h.lt,by have:=h.nb;unfold af at this;omega⟩
theorem nC {s:Bool} {r:Nat} (h:r≤9218868437227405312):NN (wrd s r)∧sB (wrd s r)=s:=by
 unfold wrd sB
 cases s
 ·exact⟨⟨by simp;omega,by simp;omega⟩,by simp;omega⟩
 ·refine⟨⟨by simp;omega,by simp;omega⟩,?_⟩
  rw [if_pos rfl,show (9223372036854775808+r) / 9223372036854775808 % 2=1 by omega];rfl
theorem nD {r:Nat} {k:Int} (h:RkW r k):NN r:=KP h.2.1 h.2.2
theorem zD {x y:Nat} (hx:NumW x) (hy:NumW y):NN (sSub x y):=by
 obtain⟨r,e,h⟩:=uv hx.nb hy.nb
 unfold sSub;rw [e,aq];exact nD h
theorem gr {x y:Nat} (hx:NN x) (hy:NumW y) (h0:y % 9223372036854775808≠0):NN (sDiv x y):=by
 unfold sDiv
 rcases hx.cases with h | h
 ·obtain⟨r,e,hr⟩:=jY h hy.nb h0
  rw [e,aq];exact nD hr
 ·rw [zc h hy.nb,aq];exact (nC (by omega)).1
theorem iH {x y:Nat} (hx:NN x) (hy:NumW y) (h0:y % 9223372036854775808≠0):NN (sMul x y):=by
 unfold sMul
 rcases hx.cases with h | h
 ·obtain⟨r,e,hr⟩:=nB h hy.nb
  rw [e,aq];exact nD hr
 ·rw [(gU h hy.nb h0).1,aq];exact (nC (by omega)).1
theorem lX {x y:Nat} (hx:NumW x) (hy:NN y):NN (sAdd x y):=by
 unfold sAdd
 rcases hy.cases with h | h
 ·obtain⟨r,e,hr⟩:=eE hx.nb h
  rw [e,aq];exact nD hr
 ·rw [(jO h hx.nb hy.lt).2,aq];exact hy
theorem qg {x y:Nat} (hx:NN x) (hy:NN y) (hs:sB x=sB y):NN (sAdd x y):=by
 unfold sAdd
 rcases hx.cases with h | h<;>rcases hy.cases with h' | h'
 ·obtain⟨r,e,hr⟩:=eE h h'
  rw [e,aq];exact nD hr
 ·rw [(jO h' h hy.lt).2,aq];exact hy
 ·rw [(jO h h' hx.lt).1,aq];exact hx
 ·have e:x=y:=by
   have a:=hx.lt
   have b:=hy.lt
   unfold sB at hs
   have c:(x / 9223372036854775808 % 2==1)=(y / 9223372036854775808 % 2==1):=hs
   have d:x / 9223372036854775808 % 2=y / 9223372036854775808 % 2:=by
    rcases Nat.mod_two_eq_zero_or_one (x / 9223372036854775808) with p | p<;>rcases Nat.mod_two_eq_zero_or_one (y / 9223372036854775808) with q | q<;>rw [p,q] at c<;>simp_all
   omega
  rw [mT h h' hx.lt hy.lt,if_pos e,aq];exact hx
theorem nE {c a:Nat} (hc:af c) (hc0:c % 9223372036854775808≠0) (hcs:sB c=false) (ha:NN a) (h0:a % 9223372036854775808≠0):NN (sDiv c a)∧sB (sDiv c a)=sB a:=by
 unfold sDiv
 rcases ha.cases with h | h
 ·have hl:(mg (a % 9223372036854775808)).log2<53:=(Nat.log2_lt (fb h0)).2 (by have:=ml (a % 9223372036854775808);omega)
  rw [iD hc h hc0 h0 rfl rfl rfl rfl (k:=300) (by omega),aq,hcs,Bool.false_xor]
  exact nC (nv _ _)
 ·rw [mZ hc h,aq,hcs,Bool.false_xor]
  exact nC (by omega)
theorem Ew {s:Nat} (hs:NN s):NN (sDiv 4611686018427387904 s):=by
 by_cases h0:s % 9223372036854775808=0
 ·unfold sDiv
  rw [lj (by unfold af;decide) (by decide) h0,aq]
  exact (nC (by omega)).1
 ·exact (nE (by unfold af;decide) (by decide) (by decide) hs h0).1
theorem gw {a:Nat} (hl:a<18446744073709551616) (h:ltB 0 (a:Nat)=true):a % 9223372036854775808≠0∧sB a=false:=by
 unfold ltB at h
 simp only [Bool.and_eq_true,Bool.not_eq_true',decide_eq_true_eq] at h
 obtain⟨⟨_,hn⟩,hr⟩:=h
 have r0:ae 0=0:=by decide
 rw [r0] at hr
 unfold ae at hr
 rw [hn,if_neg (by decide)] at hr
 unfold sgB szI at hr
 by_cases hs:(9223372036854775808:Int)≤(a:Int)
 ·simp [hs] at hr;omega
 ·simp [hs] at hr
  refine⟨by omega,?_⟩
  unfold sB
  rw [show a / 9223372036854775808 % 2=0 by omega];rfl
theorem lY {a:Nat} (hl:a<18446744073709551616) (h:ltB (a:Nat) 0=true):a % 9223372036854775808≠0∧sB a=true:=by
 unfold ltB at h
 simp only [Bool.and_eq_true,Bool.not_eq_true',decide_eq_true_eq] at h
 obtain⟨⟨hn,_⟩,hr⟩:=h
 have r0:ae 0=0:=by decide
 rw [r0] at hr
 unfold ae at hr
 rw [hn,if_neg (by decide)] at hr
 unfold sgB szI at hr
 by_cases hs:(9223372036854775808:Int)≤(a:Int)
 ·simp [hs] at hr
  refine⟨by omega,?_⟩
  unfold sB
  rw [show a / 9223372036854775808 % 2=1 by omega];rfl
 ·simp [hs] at hr;omega
theorem Jw {a b:Nat} (ha:NN a) (hb:NN b):NN (slB a b):=by
 have one:af 4607182418800017408:=by unfold af;decide
 have key:a % 9223372036854775808≠0→b % 9223372036854775808≠0→sB a=sB b→NN (sDiv 4611686018427387904 (sAdd (sDiv 4607182418800017408 a) (sDiv 4607182418800017408 b))):=fun h1 h2 hs=>by
  obtain⟨n1,s1⟩:=nE one (by decide) (by decide) ha h1
  obtain⟨n2,s2⟩:=nE one (by decide) (by decide) hb h2
  exact Ew (qg n1 n2 (by rw [s1,s2,hs]))
 have h:=DL a b
 generalize slB a b=z at *
 cases h with
 | up h1 h2=>
  obtain⟨x1,x2⟩:=gw ha.lt h1
  obtain⟨y1,y2⟩:=gw hb.lt h2
  exact key x1 y1 (by rw [x2,y2])
 | down1 h1 h3 h4=>
  obtain⟨x1,x2⟩:=lY ha.lt h3
  obtain⟨y1,y2⟩:=lY hb.lt h4
  exact key x1 y1 (by rw [x2,y2])
 | flat1=>exact⟨by decide,by decide⟩
 | flat2=>exact⟨by decide,by decide⟩
 | flat3=>exact⟨by decide,by decide⟩
theorem rX {x y:Nat} (hx:NumW x) (hy:NN y):NN (sSub x y):=by
 have e:sSub x y=sAdd x (flipN y):=by unfold sSub sAdd;rw [tN hy.lt hy.nan]
 obtain⟨f1,f2,_⟩:=gh hy.lt
 rw [e]
 exact lX hx ⟨f1,by rw [f2];exact hy.le⟩
theorem gz {m:Int} (h0:0<m) (h1:m≤9007199254740992):NumW (fi m)∧fi m % 9223372036854775808≠0:=by
 obtain⟨a,b,c,d⟩:=mP (m:=m) rfl (by omega) h1
 refine⟨⟨d,b⟩,fun e=>?_⟩
 have hv:vI (fi m)=0:=by unfold vI;rw [e,bD];split<;>rfl
 rw [hv] at a
 have hp:(0:Int)<((2^1074:Nat):Int):=by have:=Nat.two_pow_pos 1074;omega
 have:=Int.mul_pos h0 hp
 omega
theorem aE {kind:Int} {xs:List Int} {ys:List Nat} (h:OkT kind xs ys) (hf:∀ i<ys.length,U64 (ys.getD i 0:Nat)) {i:Nat} (hi:i<xs.length):NumW (ys.getD i 0):=by
 have h1:=(ao (h.node i hi)).2.2.2.1
 have h2:=hf i (by rw [h.len];exact hi)
 unfold bE szI at h1
 rw [decide_eq_true_eq] at h1
 exact⟨by have:=h2.2;omega,by unfold af;omega⟩
theorem eF {kind:Int} {xs:List Int} {ys:List Nat} (h:OkT kind xs ys) (hf:∀ i<ys.length,U64 (ys.getD i 0:Nat)) {k:Nat} (hk:k+1<xs.length):NN (steepB xs ys k):=by
 have hs:=h.step hk
 have n0:=ao (h.node k (by omega))
 have n1:=ao (h.node (k+1) hk)
 obtain⟨a,b⟩:=gz (m:=xs.getD (k+1) 0 - xs.getD k 0) (by omega) (by omega)
 exact gr (zD (aE h hf hk) (aE h hf (by omega))) a b
theorem uH {kind:Int} {xs:List Int} {ys:List Nat} (h:OkT kind xs ys) (hf:∀ i<ys.length,U64 (ys.getD i 0:Nat)):∀ k,k+1<xs.length→∀ d ∈ dH xs ys k,NN d
 | 0,hk,d,hd=>by
  have:d=steepB xs ys 0:=by simpa [dH] using hd
  rw [this];exact eF h hf hk
 | k+1,hk,d,hd=>by
  rw [gl,List.mem_append] at hd
  rcases hd with hd | hd
  ·exact uH h hf k (by omega) d hd
  ·have:d=slB (steepB xs ys k) (steepB xs ys (k+1)):=by simpa using hd
   rw [this];exact Jw (eF h hf (by omega)) (eF h hf hk)
theorem fH {kind:Int} {xs:List Int} {ys:List Nat} (h:OkT kind xs ys) (hf:∀ i<ys.length,U64 (ys.getD i 0:Nat)) (i:Nat):NN ((bA xs ys xs.length).getD i 0):=by
 have z:NN 0:=⟨by decide,by decide⟩
 by_cases hi:i<(bA xs ys xs.length).length
 ·have e:(bA xs ys xs.length).getD i 0=(bA xs ys xs.length)[i]:=by simp [List.getD,List.getElem?_eq_getElem hi]
  rw [e]
  have hm:=List.getElem_mem hi
  generalize (bA xs ys xs.length)[i]=d at *
  unfold bA at hm
  have hlo:=h.lo
  split at hm
  ·have:d=0:=by simpa using hm
   rw [this];exact z
  ·rw [List.mem_append] at hm
   rcases hm with hm | hm
   ·exact uH h hf _ (by omega) d hm
   ·have:d=steepB xs ys (xs.length - 2):=by simpa using hm
    rw [this];exact eF h hf (by omega)
 ·have e:(bA xs ys xs.length).getD i 0=0:=by simp [List.getD,List.getElem?_eq_none (show (bA xs ys xs.length).length≤i by omega)]
  rw [e];exact z
theorem zE {x a b:Nat} (hx:x<18446744073709551616) (hn:ag (x:Nat)=false) (ha:NumW a) (hb:NumW b) (h1:ae (a:Nat)≤ae (x:Nat)) (h2:ae (x:Nat)≤ae (b:Nat)):NumW x:=by
 have ra: -9218868437227405312<ae (a:Nat):=by
  rcases vI_rank ha.lt ha.nb with⟨p,_,q⟩| ⟨p,_,q⟩
  ·omega
  ·have:=ha.nb;unfold af at this;omega
 have rb:ae (b:Nat)<9218868437227405312:=by
  rcases vI_rank hb.lt hb.nb with⟨p,_,q⟩| ⟨p,_,q⟩
  ·have:=hb.nb;unfold af at this;omega
  ·omega
 exact⟨hx,uA (k:=ae (x:Nat)) ⟨rfl,hx,hn⟩ (by omega) (by omega)⟩
theorem kK {v a b:Nat} (hv:NN v) (ha:NumW a) (hb:NumW b) (h:ae (a:Nat)≤ae (b:Nat)):NumW (heldN v a b)∧ae (a:Nat)≤ae (heldN v a b:Nat)∧ae (heldN v a b:Nat)≤ae (b:Nat):=by
 obtain⟨x,y,z⟩:=GZ hv.nan ha.nn.nan hb.nn.nan h
 rw [← eA hv.lt ha.lt hb.lt] at x y z
 exact⟨zE (gY hv.lt ha.lt hb.lt) x ha hb y z,y,z⟩
theorem kL {v a b:Nat} (hv:NN v) (ha:NumW a) (hb:NumW b) (h:ae (b:Nat)≤ae (a:Nat)):NumW (heldN v a b)∧ae (b:Nat)≤ae (heldN v a b:Nat)∧ae (heldN v a b:Nat)≤ae (a:Nat):=by
 obtain⟨x,y,z⟩:=AE hv.nan ha.nn.nan hb.nn.nan h
 rw [← eA hv.lt ha.lt hb.lt] at x y z
 exact⟨zE (gY hv.lt ha.lt hb.lt) x hb ha y z,y,z⟩
theorem Jx {h d e a b:Nat} (hh:NumW h) (h0:h % 9223372036854775808≠0) (hd:NN d) (he:NN e) (ha:NumW a) (hb:NumW b) (hr:ae (a:Nat)≤ae (b:Nat)):Up4 a (ptP h d a b) (ptQ h e b (ptP h d a b)) b:=by
 obtain⟨t3,t30⟩:=gz (m:=3) (by decide) (by decide)
 obtain⟨p1,p2,p3⟩:=kK (v:=sAdd a (sDiv (sMul d h) (fi 3))) (lX ha (gr (iH hd hh h0) t3 t30)) ha hb hr
 obtain⟨q1,q2,q3⟩:=kK (v:=sSub b (sDiv (sMul e h) (fi 3))) (rX hb (gr (iH he hh h0) t3 t30)) p1 hb p3
 exact⟨ha,p1,q1,hb,p2,q2,q3⟩
theorem Ex {h d e a b:Nat} (hh:NumW h) (h0:h % 9223372036854775808≠0) (hd:NN d) (he:NN e) (ha:NumW a) (hb:NumW b) (hr:ae (b:Nat)≤ae (a:Nat)):Down4 a (ptP h d a b) (ptQ h e b (ptP h d a b)) b:=by
 obtain⟨t3,t30⟩:=gz (m:=3) (by decide) (by decide)
 obtain⟨p1,p2,p3⟩:=kL (v:=sAdd a (sDiv (sMul d h) (fi 3))) (lX ha (gr (iH hd hh h0) t3 t30)) ha hb hr
 obtain⟨q1,q2,q3⟩:=kL (v:=sSub b (sDiv (sMul e h) (fi 3))) (rX hb (gr (iH he hh h0) t3 t30)) p1 hb p2
 exact⟨ha,p1,q1,hb,p3,q3,q2⟩
end Go.Proofs.YtjjlnmihkadlmaaGreat
namespace Go.Proofs.YtjjlnmihkadlmaaGreat
open Go.RowKit

theorem olt {x c:Nat} (h:x<18446744073709551616) (hc:c<18446744073709551616):(FloatKind.f64.format.order x c==some .lt)=ltB (x:Nat) (c:Nat):=by
 unfold ltB
 cases hn:ag (x:Int) with
 | true=>rw [dU hn];rfl
 | false=>
  cases hm:ag (c:Int) with
  | true=>rw [gE hm];rfl
  | false=>rw [jx (aQ h) (aQ hc) hn hm];rfl
theorem ogt {x c:Nat} (h:x<18446744073709551616) (hc:c<18446744073709551616):(FloatKind.f64.format.order x c==some .gt)=ltB (c:Nat) (x:Nat):=by
 unfold ltB
 cases hn:ag (x:Int) with
 | true=>rw [dU hn];simp
 | false=>
  cases hm:ag (c:Int) with
  | true=>rw [gE hm];rfl
  | false=>rw [im (aQ h) (aQ hc) hn hm];rfl
set_option maxHeartbeats 1600000 in
theorem kR (v a b:Nat) (w:World) (hv:v<18446744073709551616) (ha:NumW a) (hb:NumW b) :
  Calls Tryz.prog 196 #[.float .f64 v,.float .f64 a,.float .f64 b] w fun e w'=>e=.returned (.float .f64 (heldN v a b))∧w'=w:=by
 have la:=ax ha.nn.nan hb.nn.nan
 have lb:=ax hb.nn.nan ha.nn.nan
 have e1:=olt hb.lt ha.lt
 have e2:=eK (aQ ha.lt) (aQ hb.lt) ha.nn.nan hb.nn.nan
 have va:=olt hv ha.lt
 have vb:=olt hv hb.lt
 have ga:=ogt hv ha.lt
 have gb:=ogt hv hb.lt
 obtain⟨R,hR⟩:∃ R,heldN v a b=R:=⟨_,rfl⟩
 rw [hR]
 unfold heldN cY at hR
 rcases Int.lt_trichotomy (ae (a:Nat)) (ae (b:Nat)) with h | h | h
 ·rw [decide_eq_true h] at la
  rw [decide_eq_false (by omega)] at lb e2
  rw [lb] at e1
  rw [la,lb] at hR
  clear la lb vb ga ha hb hv h
  cases h1:ltB (v:Nat) (a:Nat)<;>cases h2:ltB (b:Nat) (v:Nat)
  all_goals
   rw [h1] at va hR
   rw [h2] at gb hR
   clear h1 h2
   simp at hR
   subst hR
   go_enter Tryz.func196,Tryz.ntmps196
   go_wp2
   go_ret
   exact⟨rfl,rfl⟩
 ·rw [decide_eq_false (by omega)] at la lb
  rw [decide_eq_true h] at e2
  rw [lb] at e1
  rw [la,lb] at hR
  clear la lb vb gb ha hb hv h
  cases h1:ltB (v:Nat) (a:Nat)<;>cases h2:ltB (a:Nat) (v:Nat)
  all_goals
   rw [h1] at va hR
   rw [h2] at ga hR
   clear h1 h2
   simp at hR
   subst hR
   go_enter Tryz.func196,Tryz.ntmps196
   go_wp2
   go_ret
   exact⟨rfl,rfl⟩
 ·rw [decide_eq_true h] at lb
  rw [decide_eq_false (by omega)] at la e2
  rw [lb] at e1
  rw [lb] at hR
  clear la lb va gb ha hb hv h
  cases h1:ltB (v:Nat) (b:Nat)<;>cases h2:ltB (a:Nat) (v:Nat)
  all_goals
   rw [h1] at vb hR
   rw [h2] at ga hR
   clear h1 h2
   simp at hR
   subst hR
   go_enter Tryz.func196,Tryz.ntmps196
   go_wp2
   go_ret
   exact⟨rfl,rfl⟩

def prv (xs:List Int):Nat→Int
 | 0=>-1
 | k+1=>xs.getD k 0
def plB (xs:List Int) (i:Nat):Bool:=decide (xs.getD i 0≤prv xs i)||decide (109572<xs.getD i 0)
def vlB (kind:Int) (ys:List Nat) (i:Nat):Bool:=!bE (ys.getD i 0:Nat)||(decide (kind=4)&&!ltB 0 (ys.getD i 0:Nat))

set_option maxHeartbeats 800000 in
theorem xZ (p:Option Addr) (n c:Nat) (w:World) (h:n<1∨256<n) :
  Calls Tryz.prog 158 #[.slice p n c] w fun e w'=>e=.returned (.bool false)∧w'=w:=by
 rcases h with h | h
 ·have d1:decide ((n:Int)<1)=true:=decide_eq_true (by omega)
  clear h
  go_enter Tryz.func158,Tryz.ntmps158
  go_wp2
  go_ret
  exact⟨rfl,rfl⟩
 ·have d1:decide ((n:Int)<1)=false:=decide_eq_false (by omega)
  have d2:decide ((256:Int)<n)=true:=decide_eq_true (by omega)
  clear h
  go_enter Tryz.func158,Tryz.ntmps158
  go_wp2
  go_ret
  exact⟨rfl,rfl⟩

set_option maxHeartbeats 1600000 in
theorem uU (p:Option Addr) (b off c n K:Nat) (xs:List Int) (w:World) (hX:VSrc w p b off n (xV xs)) (hn:1≤n) (hn':n≤256) (hK:K≤n) (fine:∀ i<K,plB xs i=false) (bad:K<n→plB xs K=true) :
  Calls Tryz.prog 158 #[.slice p n c] w fun e w'=>e=.returned (.bool (decide (n≤K)))∧w'=w:=by
 obtain⟨g,hg⟩:∃ g,decide (n≤K)=g:=⟨_,rfl⟩
 rw [hg]
 have G0:Hid (K<n→g=false):=fun hh=>by rw [← hg];exact decide_eq_false (by omega)
 have G1:Hid (K=n→g=true):=fun hh=>by rw [← hg];exact decide_eq_true (by omega)
 clear hg
 have HX:=hideS hX
 have HF:=hideS fine
 have HB:=hideS bad
 obtain rfl:=hX.at_ (by omega)
 have d1:decide ((n:Int)<1)=false:=decide_eq_false (by omega)
 have d2:decide ((256:Int)<n)=false:=decide_eq_false (by omega)
 clear hX fine bad
 go_enter Tryz.func158,Tryz.ntmps158
 go_wp2_with fail
 clear d1 d2
 go_loop [3,5,16] (fun l _ i=>∃ k:Nat,k≤K∧i=.int .i64 k∧l=.int .i64 (prv xs k)) (fun _ _ i=>n - (intOf i).toNat)
 case atStart=>exact⟨0,Nat.zero_le _,rfl,rfl⟩
 case round=>
  obtain⟨k,hk,rfl,rfl⟩:=hrel
  by_cases hkK:k<K
  ·have hkn:k<n:=by omega
   have c1:w.cell? ⟨b,off+k,none⟩=some (.int .i64 (xs.getD k 0)):=HX.out.cell k hkn
   have f:=HF.out k hkK
   unfold plB at f
   rw [Bool.or_eq_false_iff] at f
   obtain⟨f1,f2⟩:=f
   have HP:=hideS (show prv xs (k+1)=xs.getD k 0 from rfl)
   generalize prv xs k=l at *
   generalize xs.getD k 0=y at *
   go_wp2_with fail
   go_round
   case rel=>exact⟨k+1,by omega,by simp,by rw [HP.out]⟩
   case measure=>simp [intOf];omega
  ·obtain rfl:k=K:=by omega
   by_cases hl:k<n
   ·have c1:w.cell? ⟨b,off+k,none⟩=some (.int .i64 (xs.getD k 0)):=HX.out.cell k hl
    have f:=HB.out hl
    unfold plB at f
    have HG:=hideS (G0.out hl)
    generalize prv xs k=l at *
    generalize xs.getD k 0=y at *
    cases f1:decide (y≤l)
    ·rw [f1,Bool.false_or] at f
     go_wp2_with fail
     go_ret
     exact⟨by rw [HG.out]<;>rfl,rfl⟩
    ·clear f
     go_wp2_with fail
     go_ret
     exact⟨by rw [HG.out]<;>rfl,rfl⟩
   ·obtain rfl:k=n:=by omega
    have HG:=hideS (G1.out rfl)
    go_wp2_with fail
    go_ret
    exact⟨by rw [HG.out]<;>rfl,rfl⟩

set_option maxHeartbeats 1600000 in
theorem uW (kind:Int) (p:Option Addr) (b off c n K:Nat) (ys:List Nat) (w:World) (hY:VSrc w p b off n (flV ys)) (hf:∀ i<n,ys.getD i 0<18446744073709551616) (hn':n≤256) (hK:K≤n) (fine:∀ i<K,vlB kind ys i=false) (bad:K<n→vlB kind ys K=true) :
  Calls Tryz.prog 159 #[.int .i64 kind,.slice p n c] w fun e w'=>e=.returned (.bool (decide (n≤K)))∧w'=w:=by
 obtain⟨g,hg⟩:∃ g,decide (n≤K)=g:=⟨_,rfl⟩
 rw [hg]
 have G0:Hid (K<n→g=false):=fun hh=>by rw [← hg];exact decide_eq_false (by omega)
 have G1:Hid (K=n→g=true):=fun hh=>by rw [← hg];exact decide_eq_true (by omega)
 clear hg
 have HX:=hideS hY
 have HF:=hideS fine
 have HB:=hideS bad
 have HU:=hideS hf
 clear hY fine bad hf
 go_enter Tryz.func159,Tryz.ntmps159
 go_wp2_with fail
 go_loop [6,9] (fun _ i=>∃ k:Nat,k≤K∧i=.int .i64 k) (fun _ i=>n - (intOf i).toNat)
 case atStart=>exact⟨0,Nat.zero_le _,rfl⟩
 case round=>
  obtain⟨k,hk,rfl⟩:=hrel
  by_cases hl:k<n
  ·have c1:w.cell? ⟨b,off+k,none⟩=some (.float .f64 (ys.getD k 0)):=HX.out.cell k hl
   obtain rfl:=HX.out.at_ (by omega)
   have hu:=HU.out k hl
   have H1:=hideS fun w=>aX (ys.getD k 0) w (aQ hu)
   have hv:vlB kind ys k=decide (K≤k):=by
    by_cases hkK:k<K
    ·rw [HF.out k hkK,decide_eq_false (by omega)]
    ·obtain rfl:k=K:=by omega
     rw [HB.out hl,decide_eq_true (Nat.le_refl k)]
   have o1:=olt hu (show (0:Nat)<18446744073709551616 by decide)
   unfold vlB at hv
   cases hn:ag (ys.getD k 0:Nat) with
   | true=>
    rw [qU hn,Bool.not_false,Bool.true_or] at hv
    have hKk:=of_decide_eq_true hv.symm
    have HG:=hideS (G0.out (by omega))
    rw [hn] at H1
    clear hv o1 hn hKk hu
    generalize ys.getD k 0=y at *
    go_wp2_with (first | (go_at_call 90;refine (H1.out _).mono ?_;rintro e w' ⟨rfl,rfl⟩))
    go_ret
    exact⟨by rw [HG.out]<;>rfl,rfl⟩
   | false=>
    have H2:=hideS fun w=>iY (ys.getD k 0) _ w (aQ hu) (qT hn)
    have o2:=eK (aQ hu) (aQ (show (0:Nat)<18446744073709551616 by decide)) hn (by decide)
    have o3:ltB 0 (ys.getD k 0:Nat)=!((FloatKind.f64.format.order (ys.getD k 0) 0==some .lt)||(FloatKind.f64.format.order (ys.getD k 0) 0==some .eq)):=by
     rw [o1,o2,ax (by decide) hn]
     have r0:ae ((0:Nat):Int)=0:=by decide
     have r0':ae (0:Int)=0:=by decide
     have e:ltB (ys.getD k 0:Nat) ((0:Nat):Int)=decide (ae (ys.getD k 0:Nat)<0):=by rw [ax hn (by decide),r0]
     rw [e,r0,r0']
     generalize ae (ys.getD k 0:Nat)=r
     by_cases q1:r<0<;>by_cases q2:r=0<;>by_cases q3:0<r<;>simp [q1,q2,q3]<;>omega
    rw [o3] at hv
    rw [hn] at H1
    clear o1 o2 o3 hu hn
    generalize ys.getD k 0=y at *
    cases hfy:bE (y:Nat) with
    | false=>
     rw [hfy] at H2 hv
     rw [Bool.not_false,Bool.true_or] at hv
     have hKk:=of_decide_eq_true hv.symm
     have HG:=hideS (G0.out (by omega))
     clear hv hKk hfy
     go_wp2_with (first | (go_at_call 90;refine (H1.out _).mono ?_;rintro e w' ⟨rfl,rfl⟩) | (go_at_call 61;refine (H2.out _).mono ?_;rintro e w' ⟨rfl,rfl⟩))
     go_ret
     exact⟨by rw [HG.out]<;>rfl,rfl⟩
    | true=>
     rw [hfy] at H2 hv
     rw [Bool.not_true,Bool.false_or,Bool.not_not] at hv
     clear hfy
     cases h4:decide (kind=4) with
     | false=>
      rw [h4,Bool.false_and] at hv
      have hKk:=of_decide_eq_false hv.symm
      have h4':(kind==4)=false:=beq_eq_false_iff_ne.2 (of_decide_eq_false h4)
      clear hv h4
      go_wp2_with (first | (go_at_call 90;refine (H1.out _).mono ?_;rintro e w' ⟨rfl,rfl⟩) | (go_at_call 61;refine (H2.out _).mono ?_;rintro e w' ⟨rfl,rfl⟩))
      go_round
      case rel=>exact⟨k+1,by omega,by simp⟩
      case measure=>simp [intOf];omega
     | true=>
      rw [h4,Bool.true_and] at hv
      obtain rfl:=of_decide_eq_true h4
      clear h4
      cases a1:(FloatKind.f64.format.order y 0==some .lt)<;>cases a2:(FloatKind.f64.format.order y 0==some .eq)
      all_goals
       rw [a1,a2] at hv
      ·have hKk:=of_decide_eq_false hv.symm
       clear hv
       go_wp2_with (first | (go_at_call 90;refine (H1.out _).mono ?_;rintro e w' ⟨rfl,rfl⟩) | (go_at_call 61;refine (H2.out _).mono ?_;rintro e w' ⟨rfl,rfl⟩))
       go_round
       case rel=>exact⟨k+1,by omega,by simp⟩
       case measure=>simp [intOf];omega
      all_goals
       have hKk:=of_decide_eq_true hv.symm
       have HG:=hideS (G0.out (by omega))
       clear hv hKk
       go_wp2_with (first | (go_at_call 90;refine (H1.out _).mono ?_;rintro e w' ⟨rfl,rfl⟩) | (go_at_call 61;refine (H2.out _).mono ?_;rintro e w' ⟨rfl,rfl⟩))
       go_ret
       exact⟨by rw [HG.out]<;>rfl,rfl⟩
  ·obtain rfl:k=n:=by omega
   obtain rfl:K=k:=by omega
   have HG:=hideS (G1.out rfl)
   go_wp2_with fail
   go_ret
   exact⟨by rw [HG.out]<;>rfl,rfl⟩

set_option maxHeartbeats 800000 in
theorem nR (k:Int) (w:World) (h:k<1∨4<k) :
  Calls Tryz.prog 157 #[.int .i64 k] w fun e w'=>e=.returned .nilFunc∧w'=w:=by
 have h1:(k==1)=false:=beq_eq_false_iff_ne.2 (by omega)
 have h2:(k==2)=false:=beq_eq_false_iff_ne.2 (by omega)
 have h3:(k==3)=false:=beq_eq_false_iff_ne.2 (by omega)
 have h4:(k==4)=false:=beq_eq_false_iff_ne.2 (by omega)
 clear h
 go_enter Tryz.func157,Tryz.ntmps157
 go_wp2_with fail
 go_ret
 exact⟨rfl,rfl⟩
def gH (kind:Int):Nat:=if kind=1 then 183 else if kind=2 then 184 else if kind=3 then 185 else 186
set_option maxHeartbeats 800000 in
theorem nS (k:Int) (w:World) (h1:1≤k) (h4:k≤4) :
  Calls Tryz.prog 157 #[.int .i64 k] w fun e w'=>e=.returned (.func (.func (gH k)) #[] #[])∧w'=w:=by
 rcases (show k=1∨k=2∨k=3∨k=4 by omega) with rfl | rfl | rfl | rfl
 all_goals
  clear h1 h4
  go_enter Tryz.func157,Tryz.ntmps157
  go_wp2_with fail
  go_ret
  exact⟨rfl,rfl⟩
end Go.Proofs.YtjjlnmihkadlmaaGreat
