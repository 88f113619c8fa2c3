/-  -/
import Derived.Test.YtjjlnmihkadlmaaGreatHbn
import Derived.Test.YtjjlnmihkadlmaaGreatHba
namespace Go.Proofs.YtjjlnmihkadlmaaGreat
open Go.RowKit

set_option maxHeartbeats 400000 in
theorem nu (nx ny:Bool) (vx vy:Value) (ex ey:Int) (w:World) (hX:DN w vx 0) :
  Calls Tryz.prog 103 #[.agg #[.bool nx,vx,.int .i64 ex],.agg #[.bool ny,vy,.int .i64 ey]] w fun x w'=>x=.returned (.int .u64 0)∧Below w.heap.size w w':=by
 have HB0:Hid (Below w.heap.size w (boxN (boxN w nx vx ex) ny vy ey)):=(aD w nx vx ex).trans ((aD (boxN w nx vx ex) ny vy ey).mono (by simp))
 have HZr:=aa fun w' (hb:Below w.heap.size w w')=>aS nx vx ex 0 true w' (hX.below hb) rfl
 clear hX
 go_enter Tryz.func103,Tryz.ntmps103
 go_wp2_with fail
 refine (HZr.out _ HB0.out).mono ?_
 rintro x w1 ⟨rfl,hb1⟩
 have HB1:=aa (HB0.out.trans (hb1.mono HB0.out.size))
 clear hb1
 go_wp2_with fail
 go_ret
 exact⟨rfl,HB1.out⟩

theorem xE (w:World) (s:Int) (neg:Bool) (v:Value) (e:Int):Three (boxA w s neg v e) w.heap.size neg v e:=⟨by simp,by simp,by simp⟩
theorem lv {w1 w2:World} {B b:Nat} {neg:Bool} {v:Value} {e:Int} (h:Three w1 B neg v e) (hb:Below b w1 w2) (hs:B<b):Three w2 B neg v e:=
 ⟨(hb.cell (p:=⟨B,1,none⟩) hs).trans h.1,(hb.cell (p:=⟨B,2,none⟩) hs).trans h.2.1,(hb.cell (p:=⟨B,3,none⟩) hs).trans h.2.2⟩
theorem Bg {neg:Bool} {M k n:Nat} {e N:Int} (hv:DV 0 neg M e N k) (h0:M≠0) (hn:0<n) {j:Nat} (hj:max 0 (70 - (bl M:Int)+(bl n:Int))=(j:Int)) :
  bI neg (M*2^j / n) (e - j - 0) (decide (0<nd (M*2^j % n)))=(A.fD N n:Int):=by
 have h1:=eZ h0
 have h2:=eZ (show n≠0 by omega)
 have hb:=mX h0 (show n≠0 by omega) (k:=j) (by omega)
 rw [mY _ _ _ hb.1,kH]
 have hval:=hv.val
 have hlo:=hv.lo
 obtain⟨q,hq⟩:∃ q:Nat,(e+2148).toNat=q:=⟨_,rfl⟩
 rw [hq] at hval
 obtain⟨m1,m2⟩:=gV (S:=sg neg M) q
 have hS0:sg neg M≠0:=by
  intro c
  have:=bu neg M
  rw [c] at this;exact h0 this.symm
 have hN0:N≠0:=fun c=>hS0 (m2.1 (hval.trans c))
 have hNa:N.natAbs=M*2^q:=by rw [← hval,aT,bu]
 have hs:=jg (neg:=neg) h0
 have hNs:decide (N<0)=neg:=by
  cases neg
  ·exact decide_eq_false (fun c=>by rw [← hval] at c;have:=m1.1 c;simp at hs;omega)
  ·exact decide_eq_true (by rw [← hval];exact m1.2 (by simpa using hs))
 have e1:2*(M*2^j / n)+(if decide (0<nd (M*2^j % n))=true then 1 else 0)=aR M n j:=by
  unfold aR
  congr 1
  by_cases hr:M*2^j % n=0
  ·rw [hr];rfl
  ·have:=dd hr
   rw [if_neg hr,if_pos (decide_eq_true (show 0<nd (M*2^j % n) from this))]
 rw [if_neg hN0,hNs,hNa,e1,Em,Nat.add_zero]
 have e2:nearR (aR M n j) (e - (j:Int) - 0 - 1)=nearR (aR M n q) (-2149):=by
  rw [show e - (j:Int) - 0 - 1=(e - 1) - (j:Int) by omega,show (-2149:Int)=(e - 1) - (q:Int) by omega]
  by_cases hjq:j≤q
  ·exact tP hn hjq hb.2
  ·exact (rQ h0 hn (by omega) (by omega)).symm
 rw [e2]
 unfold gJ wrd
 cases neg<;>simp

set_option maxHeartbeats 1600000 in
theorem xF (neg:Bool) (v:Value) (M:Nat) (e:Int) (N:Int) (k n:Nat) (w:World) (hd:DN w v M) (hv:DV 0 neg M e N k) (hk:oQ k) (hn:2≤n) (hn':n≤9223372036854775807) :
  Calls Tryz.prog 129 #[AV 0 neg v e,.int .i64 (n:Int)] w fun r w'=>r=.returned (.int .u64 (A.fD N n:Int))∧Below w.heap.size w w':=by
 obtain⟨p,l,c,rfl⟩:=hd.shape
 obtain⟨res,hres⟩:∃ res:Int,(A.fD N n:Int)=res:=⟨_,rfl⟩
 rw [hres]
 have HB:Hid (Below w.heap.size w (boxA w 0 neg (.slice p l c) e)):=(Below.refl _ _).alloc (Nat.le_refl _) _
 have HW:=aa fun wx=>mG (n:Int) wx (by omega) (by omega)
 unfold dA at HW
 rw [show decide ((n:Int)<0)=false from decide_eq_false (by omega),Int.natAbs_natCast] at HW
 have HN:Hid (∀ wx vy,Below w.heap.size w wx→DN wx vy n→Calls Tryz.prog 103 #[.agg #[.bool neg,.slice p l c,.int .i64 e],.agg #[.bool false,vy,.int .i64 0]] wx fun x w'=>x=.returned (.int .u64 res)∧Below wx.heap.size wx w'):=fun wx vy hb hy=>by
  rw [← hres]
  by_cases h0:M=0
  ·have hN:N=0:=by have:=hv.val;rw [h0,aL,Int.zero_mul] at this;exact this.symm
   have:=nu neg false (.slice p l c) vy e 0 wx (by have:=hd.below hb;rw [h0] at this;exact this)
   rw [kH,if_pos hN]
   exact this
  ·obtain⟨j,hj⟩:∃ j:Nat,max 0 (70 - (bl M:Int)+(bl n:Int))=(j:Int):=⟨(max 0 (70 - (bl M:Int)+(bl n:Int))).toNat,by omega⟩
   exact li neg false _ (.slice p l c) vy e 0 _ M n j _ wx (hd.below hb) hy h0 (by omega) (by have:=(hv.nd hk).2;omega) (by have:=bT (N:=n) (k:=2) (by omega);omega) (by have:=hv.lo;omega) (by have:=hv.hi;omega) (by omega) (by omega) hj rfl rfl (Bg hv h0 (by omega) hj)
 have hn1:((n:Int)==1)=false:=beq_false_of_ne (by omega)
 clear hd hv hres hk hn hn'
 go_enter Tryz.func129,Tryz.ntmps129
 have H3:=aa (xE w 0 neg (.slice p l c) e)
 go_wp2_with fail
 go_region_held3 (fun w'=>w'.cell? ⟨w.heap.size,1,none⟩=some (.bool neg)∧w'.cell? ⟨w.heap.size,2,none⟩=some (.slice p l c)∧w'.cell? ⟨w.heap.size,3,none⟩=some (.int .i64 e)) (first | exact H3.out | exact H4.out | exact H5.out | go_keep) (first | ((go_at_call 165;refine (HW.out _).mono ?_;rintro r w3 ⟨vy,rfl,hdy,hb3⟩;obtain⟨py,ly,cy,rfl⟩:=hdy.shape;have HB3:=aa (HB.out.drew.trans (hb3.mono HB.out.size));have H4:=aa (lv (w1:=(boxA w 0 neg (.slice p l c) e).drew) H3.out hb3 (show w.heap.size<(boxA w 0 neg (.slice p l c) e).heap.size by simp));have hz3:Hid (w.heap.size<w3.heap.size):=(Nat.lt_of_lt_of_le (show w.heap.size<(boxA w 0 neg (.slice p l c) e).heap.size by simp) hb3.size);have HDy:=aa hdy;clear hb3 hdy)) | ((go_at_call 103;refine (HN.out _ _ HB3.out HDy.out).mono ?_;rintro r w4 ⟨rfl,hb4⟩;have HB4:=aa (HB3.out.trans (hb4.mono HB3.out.size));have H5:=aa (lv H4.out hb4 hz3.out);clear hb4)))
 all_goals
  go_wp2_with fail
  go_ret
  exact⟨rfl,HB4.out⟩
def aI (a:A.St) (n:Nat):Nat:=if a.s=0 then A.fD a.N n else A.cV a
set_option maxHeartbeats 1600000 in
theorem xG (s:Nat) (neg:Bool) (v:Value) (M:Nat) (e:Int) (N n:Int) (w:World) (hd:DN w v M) (hs:s=1∨s=2∨s=3) :
  Calls Tryz.prog 129 #[AV (s:Int) neg v e,.int .i64 n] w fun r w'=>r=.returned (.int .u64 (A.cV ⟨s,N⟩:Int))∧Below w.heap.size w w':=by
 obtain⟨p,l,c,rfl⟩:=hd.shape
 obtain⟨res,hres⟩:∃ res:Int,(A.cV ⟨s,N⟩:Int)=res:=⟨_,rfl⟩
 rw [hres]
 have HB:Hid (Below w.heap.size w (boxA w (s:Int) neg (.slice p l c) e)):=(Below.refl _ _).alloc (Nat.le_refl _) _
 rcases hs with rfl | rfl | rfl
 ·have hr:(9218868437227405312:Int)=res:=by rw [← hres,zk];rfl
  have HR:=aa hr
  clear hd hres hr
  go_enter Tryz.func129,Tryz.ntmps129
  go_wp2_with fail
  go_ret
  exact⟨be HR.out,HB.out⟩
 ·have hr:(18442240474082181120:Int)=res:=by rw [← hres,zl];rfl
  have HR:=aa hr
  have HF:=aa fun w=>gi 9218868437227405312 9218868437227405312 18442240474082181120 w rfl (by unfold U64;omega) rfl
  clear hd hres hr
  go_enter Tryz.func129,Tryz.ntmps129
  go_wp2_with fail
  refine (HF.out _).mono ?_
  rintro r w' ⟨rfl,rfl⟩
  go_wp2_with fail
  go_ret
  exact⟨be HR.out,HB.out⟩
 ·have hr:(9221120237041090561:Int)=res:=by rw [← hres,zm];rfl
  have HR:=aa hr
  clear hd hres hr
  go_enter Tryz.func129,Tryz.ntmps129
  go_wp2_with fail
  go_ret
  exact⟨be HR.out,HB.out⟩
theorem Jn (s:Nat) (neg:Bool) (v:Value) (M:Nat) (e:Int) (N:Int) (k n:Nat) (w:World) (hd:DN w v M) (hv:DV s neg M e N k) (hk:oQ k) (hn:1≤n) (hn':n≤9223372036854775807) :
  Calls Tryz.prog 129 #[AV (s:Int) neg v e,.int .i64 (n:Int)] w fun r w'=>r=.returned (.int .u64 (aI ⟨s,N⟩ n:Int))∧Below w.heap.size w w':=by
 have hs3:=hv.s3
 unfold aI
 dsimp only
 by_cases h0:s=0
 ·rw [if_pos h0]
  subst h0
  by_cases h1:n=1
  ·subst h1
   rw [A.AU]
   have:=KK 0 neg v M e N k w hd hv hk
   rw [zj] at this
   exact this
  ·exact xF neg v M e N k n w hd hv hk (by omega) hn'
 ·rw [if_neg h0]
  exact xG s neg v M e N (n:Int) w hd (by omega)
end Go.Proofs.YtjjlnmihkadlmaaGreat
