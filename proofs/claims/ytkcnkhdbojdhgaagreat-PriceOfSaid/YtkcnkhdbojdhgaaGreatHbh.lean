/-  -/
import Derived.Test.YtkcnkhdbojdhgaaGreatHbg
import Derived.Test.YtkcnkhdbojdhgaaGreatHau
import Derived.Test.YtkcnkhdbojdhgaaGreatHax
import Derived.Test.YtkcnkhdbojdhgaaGreatHbf
import Derived.Deep.RegionHeld3
namespace Go.Proofs.YtkcnkhdbojdhgaaGreat
open Go.RowKit

set_option maxHeartbeats 400000 in
theorem mw (nx ny:Bool) (vx vy:Value) (ex ey:Int) (w:World) (hX:DN w vx 0) :
  Calls Tryz.prog 106 #[.agg #[.bool nx,vx,.int .i64 ex],.agg #[.bool ny,vy,.int .i64 ey]] w fun x w'=>x=.returned (.int .u64 0)∧Below w.heap.size w w':=by
 have HB0:Hid (Below w.heap.size w (boxN (boxN w nx vx ex) ny vy ey)):=(ao w nx vx ex).trans ((ao (boxN w nx vx ex) ny vy ey).mono (by simp))
 have HZr:=aa fun w' (hb:Below w.heap.size w w')=>aJ nx vx ex 0 true w' (hX.below hb) rfl
 clear hX
 go_enter Tryz.func106,Tryz.ntmps106
 go_wp2_with fail
 refine (HZr.out _ HB0.out).mono ?_
 rintro x w1 ⟨rfl,hb1⟩
 have HB1:=aa (HB0.out.trans (hb1.mono HB0.out.size))
 clear hb1
 go_wp2_with fail
 go_ret
 exact⟨rfl,HB1.out⟩

theorem iI (w:World) (s:Int) (neg:Bool) (v:Value) (e:Int):Three (boxA w s neg v e) w.heap.size neg v e:=⟨by simp,by simp,by simp⟩
theorem kL {w1 w2:World} {B b:Nat} {neg:Bool} {v:Value} {e:Int} (h:Three w1 B neg v e) (hb:Below b w1 w2) (hs:B<b):Three w2 B neg v e:=
 ⟨(hb.cell (p:=⟨B,1,none⟩) hs).trans h.1,(hb.cell (p:=⟨B,2,none⟩) hs).trans h.2.1,(hb.cell (p:=⟨B,3,none⟩) hs).trans h.2.2⟩
theorem zR {neg:Bool} {M k n:Nat} {e N:Int} (hv:DV 0 neg M e N k) (h0:M≠0) (hn:0<n) {j:Nat} (hj:max 0 (70 - (bl M:Int)+(bl n:Int))=(j:Int)) :
  bw neg (M*2^j / n) (e - j - 0) (decide (0<nd (M*2^j % n)))=(A.eS N n:Int):=by
 have h1:=eA h0
 have h2:=eA (show n≠0 by omega)
 have hb:=mf h0 (show n≠0 by omega) (k:=j) (by omega)
 rw [mh _ _ _ hb.1,jY]
 have hval:=hv.val
 have hlo:=hv.lo
 obtain⟨q,hq⟩:∃ q:Nat,(e+2148).toNat=q:=⟨_,rfl⟩
 rw [hq] at hval
 obtain⟨m1,m2⟩:=eo (S:=sg neg M) q
 have hS0:sg neg M≠0:=by
  intro c
  have:=aY neg M
  rw [c] at this;exact h0 this.symm
 have hN0:N≠0:=fun c=>hS0 (m2.1 (hval.trans c))
 have hNa:N.natAbs=M*2^q:=by rw [← hval,aQ,aY]
 have hs:=fB (neg:=neg) h0
 have hNs:decide (N<0)=neg:=by
  cases neg
  ·exact decide_eq_false (fun c=>by rw [← hval] at c;have:=m1.1 c;simp at hs;omega)
  ·exact decide_eq_true (by rw [← hval];exact m1.2 (by simpa using hs))
 have e1:2*(M*2^j / n)+(if decide (0<nd (M*2^j % n))=true then 1 else 0)=aN M n j:=by
  unfold aN
  congr 1
  by_cases hr:M*2^j % n=0
  ·rw [hr];rfl
  ·have:=cM hr
   rw [if_neg hr,if_pos (decide_eq_true (show 0<nd (M*2^j % n) from this))]
 rw [if_neg hN0,hNs,hNa,e1,CM,Nat.add_zero]
 have e2:nearR (aN M n j) (e - (j:Int) - 0 - 1)=nearR (aN M n q) (-2149):=by
  rw [show e - (j:Int) - 0 - 1=(e - 1) - (j:Int) by omega,show (-2149:Int)=(e - 1) - (q:Int) by omega]
  by_cases hjq:j≤q
  ·exact sw hn hjq hb.2
  ·exact (qI h0 hn (by omega) (by omega)).symm
 rw [e2]
 unfold gj wrd
 cases neg<;>simp

set_option maxHeartbeats 1600000 in
theorem vV (neg:Bool) (v:Value) (M:Nat) (e:Int) (N:Int) (k n:Nat) (w:World) (hd:DN w v M) (hv:DV 0 neg M e N k) (hk:fJ k) (hn:2≤n) (hn':n≤9223372036854775807) :
  Calls Tryz.prog 53 #[AV 0 neg v e,.int .i64 (n:Int)] w fun r w'=>r=.returned (.int .u64 (A.eS N n:Int))∧Below w.heap.size w w':=by
 obtain⟨p,l,c,rfl⟩:=hd.shape
 obtain⟨res,hres⟩:∃ res:Int,(A.eS N n:Int)=res:=⟨_,rfl⟩
 rw [hres]
 have HB:Hid (Below w.heap.size w (boxA w 0 neg (.slice p l c) e)):=(Below.refl _ _).alloc (Nat.le_refl _) _
 have HW:=aa fun wx=>oB (n:Int) wx (by omega) (by omega)
 unfold dc at HW
 rw [show decide ((n:Int)<0)=false from decide_eq_false (by omega),Int.natAbs_natCast] at HW
 have HN:Hid (∀ wx vy,Below w.heap.size w wx→DN wx vy n→Calls Tryz.prog 106 #[.agg #[.bool neg,.slice p l c,.int .i64 e],.agg #[.bool false,vy,.int .i64 0]] wx fun x w'=>x=.returned (.int .u64 res)∧Below wx.heap.size wx w'):=fun wx vy hb hy=>by
  rw [← hres]
  by_cases h0:M=0
  ·have hN:N=0:=by have:=hv.val;rw [h0,aH,Int.zero_mul] at this;exact this.symm
   have:=mw neg false (.slice p l c) vy e 0 wx (by have:=hd.below hb;rw [h0] at this;exact this)
   rw [jY,if_pos hN]
   exact this
  ·obtain⟨j,hj⟩:∃ j:Nat,max 0 (70 - (bl M:Int)+(bl n:Int))=(j:Int):=⟨(max 0 (70 - (bl M:Int)+(bl n:Int))).toNat,by omega⟩
   exact kD neg false _ (.slice p l c) vy e 0 _ M n j _ wx (hd.below hb) hy h0 (by omega) (by have:=(hv.nd hk).2;omega) (by have:=bO (N:=n) (k:=2) (by omega);omega) (by have:=hv.lo;omega) (by have:=hv.hi;omega) (by omega) (by omega) hj rfl rfl (zR hv h0 (by omega) hj)
 have hn1:((n:Int)==1)=false:=beq_false_of_ne (by omega)
 clear hd hv hres hk hn hn'
 go_enter Tryz.func53,Tryz.ntmps53
 have H3:=aa (iI w 0 neg (.slice p l c) e)
 go_wp2_with fail
 go_region_held3 (fun w'=>w'.cell? ⟨w.heap.size,1,none⟩=some (.bool neg)∧w'.cell? ⟨w.heap.size,2,none⟩=some (.slice p l c)∧w'.cell? ⟨w.heap.size,3,none⟩=some (.int .i64 e)) (first | exact H3.out | exact H4.out | exact H5.out | go_keep) (first | ((go_at_call 107;refine (HW.out _).mono ?_;rintro r w3 ⟨vy,rfl,hdy,hb3⟩;obtain⟨py,ly,cy,rfl⟩:=hdy.shape;have HB3:=aa (HB.out.drew.trans (hb3.mono HB.out.size));have H4:=aa (kL (w1:=(boxA w 0 neg (.slice p l c) e).drew) H3.out hb3 (show w.heap.size<(boxA w 0 neg (.slice p l c) e).heap.size by simp));have hz3:Hid (w.heap.size<w3.heap.size):=(Nat.lt_of_lt_of_le (show w.heap.size<(boxA w 0 neg (.slice p l c) e).heap.size by simp) hb3.size);have HDy:=aa hdy;clear hb3 hdy)) | ((go_at_call 106;refine (HN.out _ _ HB3.out HDy.out).mono ?_;rintro r w4 ⟨rfl,hb4⟩;have HB4:=aa (HB3.out.trans (hb4.mono HB3.out.size));have H5:=aa (kL H4.out hb4 hz3.out);clear hb4)))
 all_goals
  go_wp2_with fail
  go_ret
  exact⟨rfl,HB4.out⟩
def aI (a:A.St) (n:Nat):Nat:=if a.s=0 then A.eS a.N n else A.cg a
set_option maxHeartbeats 1600000 in
theorem vW (s:Nat) (neg:Bool) (v:Value) (M:Nat) (e:Int) (N n:Int) (w:World) (hd:DN w v M) (hs:s=1∨s=2∨s=3) :
  Calls Tryz.prog 53 #[AV (s:Int) neg v e,.int .i64 n] w fun r w'=>r=.returned (.int .u64 (A.cg ⟨s,N⟩:Int))∧Below w.heap.size w w':=by
 obtain⟨p,l,c,rfl⟩:=hd.shape
 obtain⟨res,hres⟩:∃ res:Int,(A.cg ⟨s,N⟩:Int)=res:=⟨_,rfl⟩
 rw [hres]
 have HB:Hid (Below w.heap.size w (boxA w (s:Int) neg (.slice p l c) e)):=(Below.refl _ _).alloc (Nat.le_refl _) _
 rcases hs with rfl | rfl | rfl
 ·have hr:(9218868437227405312:Int)=res:=by rw [← hres,xO];rfl
  have HR:=aa hr
  clear hd hres hr
  go_enter Tryz.func53,Tryz.ntmps53
  go_wp2_with fail
  go_ret
  exact⟨aW HR.out,HB.out⟩
 ·have hr:(18442240474082181120:Int)=res:=by rw [← hres,xP];rfl
  have HR:=aa hr
  have HF:=aa fun w=>fD 9218868437227405312 9218868437227405312 18442240474082181120 w rfl (by unfold U64;omega) rfl
  clear hd hres hr
  go_enter Tryz.func53,Tryz.ntmps53
  go_wp2_with fail
  refine (HF.out _).mono ?_
  rintro r w' ⟨rfl,rfl⟩
  go_wp2_with fail
  go_ret
  exact⟨aW HR.out,HB.out⟩
 ·have hr:(9221120237041090561:Int)=res:=by rw [← hres,xQ];rfl
  have HR:=aa hr
  clear hd hres hr
  go_enter Tryz.func53,Tryz.ntmps53
  go_wp2_with fail
  go_ret
  exact⟨aW HR.out,HB.out⟩
theorem Hs (s:Nat) (neg:Bool) (v:Value) (M:Nat) (e:Int) (N:Int) (k n:Nat) (w:World) (hd:DN w v M) (hv:DV s neg M e N k) (hk:fJ k) (hn:1≤n) (hn':n≤9223372036854775807) :
  Calls Tryz.prog 53 #[AV (s:Int) neg v e,.int .i64 (n:Int)] w fun r w'=>r=.returned (.int .u64 (aI ⟨s,N⟩ n:Int))∧Below w.heap.size w w':=by
 have hs3:=hv.s3
 unfold aI
 dsimp only
 by_cases h0:s=0
 ·rw [if_pos h0]
  subst h0
  by_cases h1:n=1
  ·subst h1
   rw [A.zI]
   have:=GR 0 neg v M e N k w hd hv hk
   rw [qH] at this
   exact this
  ·exact vV neg v M e N k n w hd hv hk (by omega) hn'
 ·rw [if_neg h0]
  exact vW s neg v M e N (n:Int) w hd (by omega)
end Go.Proofs.YtkcnkhdbojdhgaaGreat
namespace Go.Proofs.YtkcnkhdbojdhgaaGreat
open Go.RowKit

structure Cells12 (w' w:World) (s:Int) (neg:Bool) (v:Value) (e:Int) (t:Int) (nt:Bool) (u:Value) (f:Int):Prop where
 c0:w'.cell? ⟨w.heap.size,0,none⟩=some (.int .i64 s)
 c1:w'.cell? ⟨w.heap.size,1,none⟩=some (.bool neg)
 c2:w'.cell? ⟨w.heap.size,2,none⟩=some v
 c3:w'.cell? ⟨w.heap.size,3,none⟩=some (.int .i64 e)
 b0:w'.cell? ⟨w.heap.size+1,0,none⟩=some (.int .i64 t)
 b1:w'.cell? ⟨w.heap.size+1,1,none⟩=some (.bool nt)
 b2:w'.cell? ⟨w.heap.size+1,2,none⟩=some u
 b3:w'.cell? ⟨w.heap.size+1,3,none⟩=some (.int .i64 f)
 d0:w'.cell? ⟨w.heap.size+2,0,none⟩=some (.int .i64 0)
 d1:w'.cell? ⟨w.heap.size+2,1,none⟩=some (.bool false)
 d2:w'.cell? ⟨w.heap.size+2,2,none⟩=some (.slice none 0 0)
 d3:w'.cell? ⟨w.heap.size+2,3,none⟩=some (.int .i64 0)
 f0:w'.frozen? ⟨w.heap.size+2,0,none⟩=false
 f1:w'.frozen? ⟨w.heap.size+2,1,none⟩=false
 f2:w'.frozen? ⟨w.heap.size+2,2,none⟩=false
 f3:w'.frozen? ⟨w.heap.size+2,3,none⟩=false
theorem Cells12.below {w1 w2 w:World} {s:Int} {neg:Bool} {v:Value} {e:Int} {t:Int} {nt:Bool} {u:Value} {f:Int} {b:Nat} (h:Cells12 w1 w s neg v e t nt u f) (hb:Below b w1 w2) (hs:w.heap.size+2<b):Cells12 w2 w s neg v e t nt u f:=by
 have c:∀ k<3,∀ j,w2.cell? ⟨w.heap.size+k,j,none⟩=w1.cell? ⟨w.heap.size+k,j,none⟩:=fun k hk j=>hb.cell (p:=⟨w.heap.size+k,j,none⟩) (by show w.heap.size+k<b;omega)
 have g:∀ j,w2.frozen? ⟨w.heap.size+2,j,none⟩=w1.frozen? ⟨w.heap.size+2,j,none⟩:=fun j=>hb.frozen (p:=⟨w.heap.size+2,j,none⟩) hs
 exact⟨(c 0 (by omega) 0).trans h.c0,(c 0 (by omega) 1).trans h.c1,(c 0 (by omega) 2).trans h.c2,(c 0 (by omega) 3).trans h.c3,(c 1 (by omega) 0).trans h.b0,(c 1 (by omega) 1).trans h.b1,(c 1 (by omega) 2).trans h.b2,(c 1 (by omega) 3).trans h.b3,(c 2 (by omega) 0).trans h.d0,(c 2 (by omega) 1).trans h.d1,(c 2 (by omega) 2).trans h.d2,(c 2 (by omega) 3).trans h.d3,(g 0).trans h.f0,(g 1).trans h.f1,(g 2).trans h.f2,(g 3).trans h.f3⟩
theorem GI {A B:Int} {k k':Nat} (hA:∃ K,K=4200∧A.natAbs≤k*2^K) (hB:∃ K,K=4200∧B.natAbs≤k'*2^K):∃ K,K=4200∧(A+B).natAbs≤(k+k')*2^K:=by
 obtain⟨K,hK,h1⟩:=hA
 obtain⟨K',hK',h2⟩:=hB
 obtain rfl:K'=K:=by omega
 refine⟨K',hK,?_⟩
 rw [Nat.add_mul]
 have:=Int.natAbs_add_le A B
 omega
end Go.Proofs.YtkcnkhdbojdhgaaGreat
namespace Go.Proofs.YtkcnkhdbojdhgaaGreat
open Go.RowKit

theorem DV.turn {s:Nat} {neg:Bool} {M:Nat} {e N:Int} {k:Nat} (h:DV s neg M e N k):DV s (jL neg M) M e (-N) k:=by
 obtain⟨K,hK,hb⟩:=h.bd
 refine⟨h.s3,h.lo,h.hi,?_,fun c=>by have:=h.none c;omega,K,hK,by rw [Int.natAbs_neg];exact hb⟩
 rw [GH,Int.neg_mul,h.val]

end Go.Proofs.YtkcnkhdbojdhgaaGreat
namespace Go.Proofs.YtkcnkhdbojdhgaaGreat
open Go.RowKit

theorem EE (neg nt:Bool) (v u:Value) (M X:Nat) (e f N T:Int) (k k':Nat) (w:World) (hd:DN w v M) (hd':DN w u X) (hv:DV 0 neg M e N k) (hv':DV 0 nt X f T k') (hk:fJ k) (hk':fJ k') :
  Calls Tryz.prog 89 #[.agg #[.bool neg,v,.int .i64 e],.agg #[.bool nt,u,.int .i64 f]] w fun r w4=>∃ neg' v' N' E',r=.returned (.agg #[.bool neg',v',.int .i64 E'])∧DN w4 v' N'∧From w.heap.size v'∧DV 0 neg' N' E' (N+T) (k+k')∧Below w.heap.size w w4:=by
 obtain⟨E,hE⟩:∃ E,eK M e X f=E:=⟨_,rfl⟩
 obtain⟨n,m,kk,hPL⟩:=CA (nm:=neg) (nx:=nt) hv.lo hv.hi hv'.lo hv'.hi (hv.nd hk).1 (hv'.nd hk').1 hE
 refine (plus_any neg nt v u e f E M X n m w hd hd' hE hPL.hn hPL.hm (by have:=hPL.hn1;omega) (by have:=hPL.hm1;omega) (by have:=hv.nd hk;omega) (by have:=hv'.nd hk';omega) hPL.had hPL.hbd).mono ?_
 rintro r w4 ⟨neg',v',N',E',rfl,hd4,hf4,hs4,hE4,hb4⟩
 have hT:=qF (s:=0) (kk:=k+k') (kk':=k+k') hPL hs4 hE4 rfl (by rw [hv.val,hv'.val];exact GI hv.bd hv'.bd) (Nat.le_refl _)
 rw [hv.val,hv'.val] at hT
 exact⟨neg',v',N',E',rfl,hd4,hf4,hT,hb4⟩
theorem DV.sgn {neg:Bool} {M:Nat} {e N:Int} {k:Nat} (h:DV 0 neg M e N k):A.dq N=if M=0 then 0 else if neg then -1 else 1:=by
 have hval:=h.val
 obtain⟨q,hq⟩:∃ q:Nat,(e+2148).toNat=q:=⟨_,rfl⟩
 rw [hq] at hval
 obtain⟨m1,m2⟩:=eo (S:=sg neg M) q
 unfold A.dq
 by_cases h0:M=0
 ·rw [if_pos h0]
  have:N=0:=by rw [← hval,h0,aH,Int.zero_mul]
  rw [this];rfl
 ·rw [if_neg h0]
  have hS0:sg neg M≠0:=by
   intro c
   have:=aY neg M
   rw [c] at this;exact h0 this.symm
  have hN0:N≠0:=fun c=>hS0 (m2.1 (hval.trans c))
  have hs:=fB (neg:=neg) h0
  cases neg
  ·rw [if_neg (fun c=>by rw [← hval] at c;have:=m1.1 c;simp at hs;omega),if_neg hN0];rfl
  ·rw [if_pos (by rw [← hval];exact m1.2 (by simpa using hs))];rfl
structure CmpF (w:World) (bb:Nat) (neg:Bool) (v:Value) (N:Nat) (E:Int) (wr:World):Prop where
 d0:wr.cell? ⟨bb,0,none⟩=some (.bool neg)
 d1:wr.cell? ⟨bb,1,none⟩=some v
 d2:wr.cell? ⟨bb,2,none⟩=some (.int .i64 E)
 dn:DN wr v N
 bl:Below w.heap.size w wr
 lt:bb<wr.heap.size
theorem CmpF.keep {w wr w':World} {bb N:Nat} {neg:Bool} {v:Value} {E:Int} (h:CmpF w bb neg v N E wr) (hb:Below wr.heap.size wr w'):w'.cell? ⟨bb,0,none⟩=some (.bool neg):=(hb.cell (p:=⟨bb,0,none⟩) h.lt).trans h.d0
theorem IJ {w w4:World} {neg:Bool} {v:Value} {N:Nat} {E:Int} (hd:DN w4 v N) (hb:Below w.heap.size w w4):CmpF w w4.heap.size neg v N E (boxN w4 neg v E):=
 ⟨by simp,by simp,by simp,hd.below (ao w4 neg v E),hb.trans ((ao w4 neg v E).mono hb.size),by simp⟩
theorem xp {w:World} {b:Nat} {x y z u v t:Value} (d0:w.cell? ⟨b,0,none⟩=some u) (d1:w.cell? ⟨b,1,none⟩=some v) (d2:w.cell? ⟨b,2,none⟩=some t) :
  (((w.setCell ⟨b,0,none⟩ x).setCell ⟨b,1,none⟩ y).setCell ⟨b,2,none⟩ z).cell? ⟨b,0,none⟩=some x∧(((w.setCell ⟨b,0,none⟩ x).setCell ⟨b,1,none⟩ y).setCell ⟨b,2,none⟩ z).cell? ⟨b,1,none⟩=some y∧(((w.setCell ⟨b,0,none⟩ x).setCell ⟨b,1,none⟩ y).setCell ⟨b,2,none⟩ z).cell? ⟨b,2,none⟩=some z:=by
 refine⟨?_,?_,?_⟩
 ·simp [d0,go_sem]
 ·simp [d1,go_sem]
 ·simp [d2,go_sem]
theorem EF {w w4:World} {bb:Nat} {neg:Bool} {v x y z:Value} {N:Nat} {E:Int} (hd:DN w4 v N) (hf:From (bb+1) v) (hb:Below w.heap.size w w4) (hbb:w.heap.size≤bb) (hlt:bb<w4.heap.size) (y0:w4.cell? ⟨bb,0,none⟩=some x) (y1:w4.cell? ⟨bb,1,none⟩=some y) (y2:w4.cell? ⟨bb,2,none⟩=some z) :
  CmpF w bb neg v N E (((w4.setCell ⟨bb,0,none⟩ (.bool neg)).setCell ⟨bb,1,none⟩ v).setCell ⟨bb,2,none⟩ (.int .i64 E)):=by
 obtain⟨a,b,c⟩:=xp (x:=.bool neg) (y:=v) (z:=.int .i64 E) y0 y1 y2
 exact⟨a,b,c,((hd.set hf (a:=⟨bb,0,none⟩) (Nat.lt_succ_self _) _).set hf (a:=⟨bb,1,none⟩) (Nat.lt_succ_self _) _).set hf (a:=⟨bb,2,none⟩) (Nat.lt_succ_self _) _,((hb.setCell (p:=⟨bb,0,none⟩) hbb _).setCell (p:=⟨bb,1,none⟩) hbb _).setCell (p:=⟨bb,2,none⟩) hbb _,by simpa using hlt⟩
theorem uQ {w:World} {B bb:Nat} {nx ny:Bool} {vx vy:Value} {ex ey:Int} (h:Six w B nx vx ex ny vy ey) (hb:B+2≤bb) (x y z:Value):Six (((w.setCell ⟨bb,0,none⟩ x).setCell ⟨bb,1,none⟩ y).setCell ⟨bb,2,none⟩ z) B nx vx ex ny vy ey:=by
 have hbl:Below bb w (((w.setCell ⟨bb,0,none⟩ x).setCell ⟨bb,1,none⟩ y).setCell ⟨bb,2,none⟩ z):=(((Below.refl bb w).setCell (p:=⟨bb,0,none⟩) (Nat.le_refl _) _).setCell (p:=⟨bb,1,none⟩) (Nat.le_refl _) _).setCell (p:=⟨bb,2,none⟩) (Nat.le_refl _) _
 exact h.below hbl (by omega)
theorem ky {w:World} {B:Nat} {nx ny:Bool} {vx vy:Value} {ex ey:Int} (h:Six w B nx vx ex ny vy ey) (hs:B+1<w.heap.size) (o:Obj):Six (w.alloc o) B nx vx ex ny vy ey:=
 h.below ((Below.refl w.heap.size w).alloc (Nat.le_refl _) o) hs
structure NewN (b:Nat) (w:World):Prop where
 y0:w.cell? ⟨b,0,none⟩=some (.bool false)
 y1:w.cell? ⟨b,1,none⟩=some (.slice none 0 0)
 y2:w.cell? ⟨b,2,none⟩=some (.int .i64 0)
 g0:w.frozen? ⟨b,0,none⟩=false
 g1:w.frozen? ⟨b,1,none⟩=false
 g2:w.frozen? ⟨b,2,none⟩=false
theorem yC (w:World):NewN w.heap.size (boxN w false (.slice none 0 0) 0):=
 ⟨by simp,by simp,by simp,World.frozen?_alloc_new _ _ _ _,World.frozen?_alloc_new _ _ _ _,World.frozen?_alloc_new _ _ _ _⟩
theorem NewN.drew {b:Nat} {w:World} (h:NewN b w):NewN b w.drew:=⟨h.y0,h.y1,h.y2,h.g0,h.g1,h.g2⟩
theorem NewN.below {b s:Nat} {w w':World} (h:NewN b w) (hb:Below s w w') (hs:b<s):NewN b w':=
 ⟨(hb.cell (p:=⟨b,0,none⟩) hs).trans h.y0,(hb.cell (p:=⟨b,1,none⟩) hs).trans h.y1,(hb.cell (p:=⟨b,2,none⟩) hs).trans h.y2,(hb.frozen (p:=⟨b,0,none⟩) hs).trans h.g0,(hb.frozen (p:=⟨b,1,none⟩) hs).trans h.g1,(hb.frozen (p:=⟨b,2,none⟩) hs).trans h.g2⟩

set_option maxHeartbeats 3200000 in
theorem IL (nx ny:Bool) (vx vy:Value) (X Y:Nat) (ex ey N T:Int) (k k':Nat) (w:World) (hd:DN w vx X) (hd':DN w vy Y) (hv:DV 0 nx X ex N k) (hv':DV 0 ny Y ey T k') (hk:fJ k) (hk':fJ k') :
  Calls Tryz.prog 108 #[.agg #[.bool nx,vx,.int .i64 ex],.agg #[.bool ny,vy,.int .i64 ey]] w fun r w'=>r=.returned (.int .i64 (A.dq (N - T)))∧Below w.heap.size w w':=by
 obtain⟨px,lx,cx,rfl⟩:=hd.shape
 obtain⟨py,ly,cy,rfl⟩:=hd'.shape
 have HT:Hid (∀ w',Below w.heap.size w w'→Calls Tryz.prog 160 #[.agg #[.bool ny,.slice py ly cy,.int .i64 ey]] w' fun r w4=>r=.returned (.agg #[.bool (jL ny Y),.slice py ly cy,.int .i64 ey])∧Below w'.heap.size w' w4):=fun w' hb=>
  (ED ny (.slice py ly cy) ey Y w' (hd'.below hb)).mono fun r w4 ⟨a,_,b⟩=>⟨a,b⟩
 have HP:Hid (∀ w',Below w.heap.size w w'→Calls Tryz.prog 89 #[.agg #[.bool nx,.slice px lx cx,.int .i64 ex],.agg #[.bool (jL ny Y),.slice py ly cy,.int .i64 ey]] w' fun r w4=>∃ neg' v' N' E',r=.returned (.agg #[.bool neg',v',.int .i64 E'])∧DN w4 v' N'∧From w'.heap.size v'∧A.dq (N - T)=(if N'=0 then 0 else if neg' then -1 else 1)∧Below w'.heap.size w' w4):=fun w' hb=>by
  refine (EE nx (jL ny Y) (.slice px lx cx) (.slice py ly cy) X Y ex ey N (-T) k k' w' (hd.below hb) (hd'.below hb) hv hv'.turn hk hk').mono ?_
  rintro r w4 ⟨neg',v',N',E',rfl,hd4,hf4,hdv,hb4⟩
  have:=hdv.sgn
  rw [show N+ -T=N - T by omega] at this
  exact⟨neg',v',N',E',rfl,hd4,hf4,this,hb4⟩
 generalize A.dq (N - T)=R at *
 generalize jL ny Y=nt at *
 clear hd hd' hv hv' hk hk'
 obtain⟨w2,hw2⟩:∃ w2,boxN (boxN w nx (.slice px lx cx) ex) ny (.slice py ly cy) ey=w2:=⟨_,rfl⟩
 have HB2:Hid (Below w.heap.size w w2):=by
  show Below _ _ _
  rw [← hw2];exact (ao w nx (.slice px lx cx) ex).trans ((ao (boxN w nx (.slice px lx cx) ex) ny (.slice py ly cy) ey).mono (by simp))
 have HZ:Hid (w2.heap.size=w.heap.size+2):=by show _=_;rw [← hw2];exact cN w nx (.slice px lx cx) ex ny (.slice py ly cy) ey
 have K0:Hid (Six w2 w.heap.size nx (.slice px lx cx) ex ny (.slice py ly cy) ey):=by show Six _ _ _ _ _ _ _ _;rw [← hw2];exact jc w nx (.slice px lx cx) ex ny (.slice py ly cy) ey
 have K1:Hid (∀ o,Six (w2.alloc o) w.heap.size nx (.slice px lx cx) ex ny (.slice py ly cy) ey):=fun o=>ky K0.out (by rw [HZ.out];omega) o
 have HB2a:Hid (Below w.heap.size w (boxN w2 false (.slice none 0 0) 0)):=HB2.out.trans ((ao w2 false (.slice none 0 0) 0).mono HB2.out.size)
 have HT0:=aa (HT.out w2.drew HB2.out.drew)
 have HT1:=aa (HT.out (boxN w2 false (.slice none 0 0) 0).drew HB2a.out.drew)
 have hsz:Hid ((boxN w2 false (.slice none 0 0) 0).heap.size=w2.heap.size+1):=by show _=_;simp
 obtain⟨c0,c1,c2,c3,c4,c5⟩:=K0.out
 go_enter Tryz.func108,Tryz.ntmps108
 go_wp2_with fail
 clear hw2
 go_region_held3 (fun x=>x.cell? ⟨w.heap.size,0,none⟩=some (.bool nx)∧x.cell? ⟨w.heap.size,1,none⟩=some (.slice px lx cx)∧x.cell? ⟨w.heap.size,2,none⟩=some (.int .i64 ex)∧x.cell? ⟨w.heap.size+1,0,none⟩=some (.bool ny)∧x.cell? ⟨w.heap.size+1,1,none⟩=some (.slice py ly cy)∧x.cell? ⟨w.heap.size+1,2,none⟩=some (.int .i64 ey)) (first | exact K0.out | exact K1.out _ | exact K3.out | exact K3a.out _ | exact K4.out | exact K4a.out _ | exact K5.out _ _ _ | go_keep) (first | ((go_at_call 160;(with_reducible refine HT0.out.mono ?_);rintro r w3 ⟨rfl,hb3⟩;have B3:=aa (HB2.out.drew.trans (hb3.mono HB2.out.size));have K3:=aa (Six.below (w:=w2.drew) K0.out hb3 (show w.heap.size+1<w2.heap.size by rw [HZ.out];omega));have z3:Hid (w.heap.size+2≤w3.heap.size):=(Nat.le_trans (Nat.le_of_eq HZ.out.symm) hb3.size);have K3a:Hid (∀ o,Six (w3.alloc o) w.heap.size nx (.slice px lx cx) ex ny (.slice py ly cy) ey):=(fun o=>ky K3.out (by have:=z3.out;omega) o);have HP3:=aa (HP.out w3 B3.out);have B3a:Hid (Below w.heap.size w (boxN w3 false (.slice none 0 0) 0)):=(B3.out.trans ((ao w3 false (.slice none 0 0) 0).mono B3.out.size));have HP3a:=aa (HP.out _ B3a.out);clear hb3)) | ((go_at_call 89;(with_reducible refine HP3.out.mono ?_);rintro r w4 ⟨neg',v',N',E',rfl,hd4,hf4,hs4,hb4⟩;obtain⟨p4,l4,c4,rfl⟩:=hd4.shape;have K4:=aa (K3.out.below hb4 (by have:=z3.out;omega));have K4a:Hid (∀ o,Six (w4.alloc o) w.heap.size nx (.slice px lx cx) ex ny (.slice py ly cy) ey):=(fun o=>ky K4.out (by have:=z3.out;have:=hb4.size;omega) o);have HF:=aa (IJ (neg:=neg') (E:=E') hd4 (B3.out.trans (hb4.mono B3.out.size)));have HS:=aa hs4;clear hd4 hf4 hs4 hb4)) | ((go_at_call 89;(with_reducible refine HP3a.out.mono ?_);rintro r w4 ⟨neg',v',N',E',rfl,hd4,hf4,hs4,hb4⟩;obtain⟨p4,l4,c4,rfl⟩:=hd4.shape;have hz4:w3.heap.size<(boxN w3 false (.slice none 0 0) 0).heap.size:=(by simp);have K4:=aa ((K3a.out _).below hb4 (by have:=z3.out;omega));have K5:Hid (∀ x y z,Six (((w4.setCell ⟨w3.heap.size,0,none⟩ x).setCell ⟨w3.heap.size,1,none⟩ y).setCell ⟨w3.heap.size,2,none⟩ z) w.heap.size nx (.slice px lx cx) ex ny (.slice py ly cy) ey):=(fun x y z=>uQ K4.out z3.out x y z);have Y4:=(yC w3).below hb4 hz4;have HF:=aa (EF (neg:=neg') (E:=E') hd4 (bG hf4 (by simp)) (B3a.out.trans (hb4.mono B3a.out.size)) (show w.heap.size≤w3.heap.size by have:=z3.out;omega) (Nat.lt_of_lt_of_le hz4 hb4.size) Y4.y0 Y4.y1 Y4.y2);obtain⟨y0,y1,y2,g0,g1,g2⟩:=Y4;have HS:=aa hs4;clear hd4 hf4 hs4 hb4 hz4)) | ((go_at_call 89;(with_reducible refine HP3b.out.mono ?_);rintro r w4 ⟨neg',v',N',E',rfl,hd4,hf4,hs4,hb4⟩;obtain⟨p4,l4,c4,rfl⟩:=hd4.shape;have K4:=aa (K3.out.below hb4 (by have:=z3.out;have:=HZ.out;omega));have K5:Hid (∀ x y z,Six (((w4.setCell ⟨w2.heap.size,0,none⟩ x).setCell ⟨w2.heap.size,1,none⟩ y).setCell ⟨w2.heap.size,2,none⟩ z) w.heap.size nx (.slice px lx cx) ex ny (.slice py ly cy) ey):=(fun x y z=>uQ K4.out (by have:=HZ.out;omega) x y z);have Y4:=Y3.out.below hb4 (by have:=z3.out;omega);have HF:=aa (EF (neg:=neg') (E:=E') hd4 (bG hf4 z3.out) (B3.out.trans (hb4.mono B3.out.size)) HB2.out.size (by have:=z3.out;have:=hb4.size;omega) Y4.y0 Y4.y1 Y4.y2);obtain⟨y0,y1,y2,g0,g1,g2⟩:=Y4;have HS:=aa hs4;clear hd4 hf4 hs4 hb4)) | ((go_at_call 160;(with_reducible refine HT1.out.mono ?_);rintro r w3 ⟨rfl,hb3⟩;have B3:=aa (HB2a.out.drew.trans (hb3.mono HB2a.out.size));have K3:=aa (Six.below (w:=(boxN w2 false (.slice none 0 0) 0).drew) (K1.out _) hb3 (show w.heap.size+1<(boxN w2 false (.slice none 0 0) 0).heap.size by rw [hsz.out,HZ.out];omega));have Y3:=aa (NewN.below (w:=(boxN w2 false (.slice none 0 0) 0).drew) (yC w2).drew hb3 (show w2.heap.size<(boxN w2 false (.slice none 0 0) 0).heap.size by rw [hsz.out];omega));have z3:Hid (w2.heap.size+1≤w3.heap.size):=(Nat.le_trans (Nat.le_of_eq hsz.out.symm) hb3.size);have HP3b:=aa (HP.out w3 B3.out);clear hb3)))
 all_goals
  obtain⟨d0,d1,d2,hdn,hbl,hlt⟩:=HF.out
  have HB5:=aa hbl
  have HDN:=aa hdn
  clear hdn hbl hlt
  go_wp2_with fail
  by_cases h0:N'=0
  ·have hR:R=0:=by rw [HS.out,if_pos h0]
   have HR:=aa hR
   refine (aJ _ _ _ N' true _ HDN.out (decide_eq_true h0)).mono ?_
   rintro x w6 ⟨rfl,hb6⟩
   have HB6:=aa (HB5.out.trans (hb6.mono HB5.out.size))
   clear hb6 hR
   go_wp2_with fail
   go_ret
   exact⟨by rw [HR.out];rfl,HB6.out⟩
  ·have hR:R=if neg' then -1 else 1:=by rw [HS.out,if_neg h0]
   have HR:=aa hR
   refine (aJ _ _ _ N' false _ HDN.out (decide_eq_false h0)).mono ?_
   rintro x w6 ⟨rfl,hb6⟩
   have k0:=HF.out.keep hb6
   have HB6:=aa (HB5.out.trans (hb6.mono HB5.out.size))
   clear hb6 hR d0 d1 d2
   cases neg'
   ·go_wp2_with fail
    go_ret
    exact⟨by rw [HR.out];rfl,HB6.out⟩
   ·go_wp2_with fail
    go_ret
    exact⟨by rw [HR.out];rfl,HB6.out⟩
set_option maxHeartbeats 800000 in
theorem GJ (nx:Bool) (vx:Value) (X:Nat) (ex N:Int) (k:Nat) (w:World) (hd:DN w vx X) (hv:DV 0 nx X ex N k) (hk:fJ k) :
  Calls Tryz.prog 55 #[.agg #[.bool nx,vx,.int .i64 ex]] w fun r w'=>r=.returned (.int .i64 (A.dq N))∧Below w.heap.size w w':=by
 obtain⟨px,lx,cx,rfl⟩:=hd.shape
 have HB:=aa (ao w nx (.slice px lx cx) ex)
 have HC:Hid (∀ w',Below w.heap.size w w'→Calls Tryz.prog 108 #[.agg #[.bool nx,.slice px lx cx,.int .i64 ex],.agg #[.bool false,.slice none 0 0,.int .i64 0]] w' fun r w4=>r=.returned (.int .i64 (A.dq N))∧Below w'.heap.size w' w4):=fun w' hb=>by
  have:=IL nx false (.slice px lx cx) (.slice none 0 0) X 0 ex 0 N 0 k 0 w' (hd.below hb) (Or.inl ⟨rfl,_,_,rfl⟩) hv (DV.zero (by decide) 0) hk (fK (by decide))
  rw [Int.sub_zero] at this
  exact this
 generalize A.dq N=R at *
 clear hd hv hk
 go_enter Tryz.func55,Tryz.ntmps55
 go_wp2_with (go_at_call 108;refine (HC.out _ HB.out).mono ?_;rintro e w1 ⟨rfl,hb1⟩)
 go_ret
 exact⟨rfl,HB.out.trans (hb1.mono HB.out.size)⟩
theorem Bf (neg:Bool) (v:Value) (M:Nat) (e N:Int) (k:Nat) (w:World) (hd:DN w v M) (hv:DV 0 neg M e N k) (hk:fJ k) :
  Calls Tryz.prog 23 #[AV 0 neg v e] w fun r w'=>r=.returned (.int .i64 (A.dq N))∧Below w.heap.size w w':=by
 obtain⟨px,lx,cx,rfl⟩:=hd.shape
 have HB:Hid (Below w.heap.size w (boxA w 0 neg (.slice px lx cx) e)):=(Below.refl _ _).alloc (Nat.le_refl _) _
 have HC:=aa fun w' (hb:Below w.heap.size w w')=>GJ neg (.slice px lx cx) M e N k w' (hd.below hb) hv hk
 generalize A.dq N=R at *
 clear hd hv hk
 go_enter Tryz.func23,Tryz.ntmps23
 go_wp2_with (go_at_call 55;refine (HC.out _ HB.out).mono ?_;rintro e w1 ⟨rfl,hb1⟩)
 go_ret
 exact⟨rfl,HB.out.trans (hb1.mono HB.out.size)⟩
theorem Jn (s:Nat) (neg:Bool) (v:Value) (M:Nat) (e N:Int) (k:Nat) (w:World) (hd:DN w v M) (hv:DV s neg M e N k) (hk:fJ k) :
  Calls Tryz.prog 23 #[AV (s:Int) neg v e] w fun r w'=>r=.returned (.int .i64 (A.vS ⟨s,N⟩))∧Below w.heap.size w w':=by
 have hs:=hv.s3
 by_cases h0:s=0
 ·subst h0
  have:=Bf neg v M e N k w hd hv hk
  unfold A.vS
  rw [if_pos rfl]
  exact this
 ·obtain⟨px,lx,cx,rfl⟩:=hd.shape
  have HB:Hid (Below w.heap.size w (boxA w (s:Int) neg (.slice px lx cx) e)):=(Below.refl _ _).alloc (Nat.le_refl _) _
  clear hd hv hk
  rcases (show s=1∨s=2∨s=3 by omega) with rfl | rfl | rfl
  all_goals
   go_enter Tryz.func23,Tryz.ntmps23
   go_wp2_with fail
   go_ret
   exact⟨rfl,HB.out⟩
end Go.Proofs.YtkcnkhdbojdhgaaGreat
