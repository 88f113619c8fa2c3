/-  -/
import Derived.Test.YtjjlnmihkadlmaaGreatHau
import Derived.Test.YtjjlnmihkadlmaaGreatHbh
import Derived.Test.YtjjlnmihkadlmaaGreatHam
import Derived.Test.YtjjlnmihkadlmaaGreatHav
import Derived.Test.YtjjlnmihkadlmaaGreatHaw
namespace Go.Proofs.YtjjlnmihkadlmaaGreat
open Go.RowKit

abbrev AV (s:Int) (neg:Bool) (v:Value) (e:Int):Value:=.agg #[.int .i64 s,.bool neg,v,.int .i64 e]
abbrev boxA (w:World) (s:Int) (neg:Bool) (v:Value) (e:Int):World:=w.alloc (.cells #[.int .i64 s,.bool neg,v,.int .i64 e] 34)
abbrev boxA2 (w:World) (s:Int) (neg:Bool) (v:Value) (e:Int):World:=boxA (boxA w s neg v e) 0 false (.slice none 0 0) 0
theorem me (w:World) (s:Int) (neg:Bool) (v:Value) (e:Int):(boxA2 w s neg v e).heap.size=w.heap.size+2:=by simp
theorem eo (w:World) (s:Int) (neg:Bool) (v:Value) (e:Int):Below w.heap.size w (boxA2 w s neg v e):=
 ((Below.refl _ _).alloc (Nat.le_refl _) _).trans (((Below.refl _ _).alloc (Nat.le_refl _) _).mono (by simp))
structure Cells8 (w' w:World) (s:Int) (neg:Bool) (v:Value) (e:Int):Prop where
 c0:w'.cell? ⟨w.heap.size,0,none⟩=some (.int .i64 s)
 c1:w'.cell? ⟨w.heap.size,1,none⟩=some (.bool neg)
 c2:w'.cell? ⟨w.heap.size,2,none⟩=some v
 c3:w'.cell? ⟨w.heap.size,3,none⟩=some (.int .i64 e)
 d0:w'.cell? ⟨w.heap.size+1,0,none⟩=some (.int .i64 0)
 d1:w'.cell? ⟨w.heap.size+1,1,none⟩=some (.bool false)
 d2:w'.cell? ⟨w.heap.size+1,2,none⟩=some (.slice none 0 0)
 d3:w'.cell? ⟨w.heap.size+1,3,none⟩=some (.int .i64 0)
 f0:w'.frozen? ⟨w.heap.size+1,0,none⟩=false
 f1:w'.frozen? ⟨w.heap.size+1,1,none⟩=false
 f2:w'.frozen? ⟨w.heap.size+1,2,none⟩=false
 f3:w'.frozen? ⟨w.heap.size+1,3,none⟩=false
theorem gS (w:World) (s:Int) (neg:Bool) (v:Value) (e:Int):Cells8 (boxA2 w s neg v e) w s neg v e:=by
 have hb:Below (boxA w s neg v e).heap.size (boxA w s neg v e) (boxA2 w s neg v e):=(Below.refl _ _).alloc (Nat.le_refl _) _
 have hs:w.heap.size<(boxA w s neg v e).heap.size:=by simp
 have e1:w.heap.size+1=(boxA w s neg v e).heap.size:=by simp
 refine⟨?_,?_,?_,?_,?_,?_,?_,?_,?_,?_,?_,?_⟩
 ·rw [hb.cell (p:=⟨w.heap.size,0,none⟩) hs];simp
 ·rw [hb.cell (p:=⟨w.heap.size,1,none⟩) hs];simp
 ·rw [hb.cell (p:=⟨w.heap.size,2,none⟩) hs];simp
 ·rw [hb.cell (p:=⟨w.heap.size,3,none⟩) hs];simp
 ·rw [e1];simp
 ·rw [e1];simp
 ·rw [e1];simp
 ·rw [e1];simp
 ·rw [e1];exact World.frozen?_alloc_new _ _ _ _
 ·rw [e1];exact World.frozen?_alloc_new _ _ _ _
 ·rw [e1];exact World.frozen?_alloc_new _ _ _ _
 ·rw [e1];exact World.frozen?_alloc_new _ _ _ _
theorem Cells8.below {w1 w2 w:World} {s:Int} {neg:Bool} {v:Value} {e:Int} {b:Nat} (h:Cells8 w1 w s neg v e) (hb:Below b w1 w2) (hs:w.heap.size+1<b):Cells8 w2 w s neg v e:=by
 have h0:w.heap.size<b:=by omega
 exact⟨(hb.cell (p:=⟨w.heap.size,0,none⟩) h0).trans h.c0,(hb.cell (p:=⟨w.heap.size,1,none⟩) h0).trans h.c1,(hb.cell (p:=⟨w.heap.size,2,none⟩) h0).trans h.c2,(hb.cell (p:=⟨w.heap.size,3,none⟩) h0).trans h.c3,
  (hb.cell (p:=⟨w.heap.size+1,0,none⟩) hs).trans h.d0,(hb.cell (p:=⟨w.heap.size+1,1,none⟩) hs).trans h.d1,(hb.cell (p:=⟨w.heap.size+1,2,none⟩) hs).trans h.d2,(hb.cell (p:=⟨w.heap.size+1,3,none⟩) hs).trans h.d3,
  (hb.frozen (p:=⟨w.heap.size+1,0,none⟩) hs).trans h.f0,(hb.frozen (p:=⟨w.heap.size+1,1,none⟩) hs).trans h.f1,(hb.frozen (p:=⟨w.heap.size+1,2,none⟩) hs).trans h.f2,(hb.frozen (p:=⟨w.heap.size+1,3,none⟩) hs).trans h.f3⟩
abbrev put4 (w:World) (b:Nat) (s:Int) (neg:Bool) (v:Value) (e:Int):World:=
 (((w.setCell ⟨b,0,none⟩ (.int .i64 s)).setCell ⟨b,1,none⟩ (.bool neg)).setCell ⟨b,2,none⟩ v).setCell ⟨b,3,none⟩ (.int .i64 e)
theorem mf {w w1:World} {B b:Nat} {s:Int} {neg:Bool} {v:Value} {e:Int} (h:Below B w w1) (hb:B≤b):Below B w (put4 w1 b s neg v e):=
 (((h.setCell (p:=⟨b,0,none⟩) hb _).setCell (p:=⟨b,1,none⟩) hb _).setCell (p:=⟨b,2,none⟩) hb _).setCell (p:=⟨b,3,none⟩) hb _
theorem EA {w:World} {b B M:Nat} {s:Int} {neg:Bool} {v u:Value} {e:Int} (h:DN w u M) (hf:From B u) (hb:b<B):DN (put4 w b s neg v e) u M:=
 (((h.set hf (a:=⟨b,0,none⟩) hb _).set hf (a:=⟨b,1,none⟩) hb _).set hf (a:=⟨b,2,none⟩) hb _).set hf (a:=⟨b,3,none⟩) hb _

theorem Ga (s:Nat) (t:Nat) (hs:s≤3) (ht:t=1∨t=2):A.mt s t=if s=0∨s=t then t else 3:=by
 unfold A.mt
 rcases ht with rfl | rfl
 all_goals rcases (show s=0∨s=1∨s=2∨s=3 by omega) with rfl | rfl | rfl | rfl<;>decide

set_option maxHeartbeats 1600000 in
theorem EB (s:Nat) (neg b:Bool) (v:Value) (e:Int) (w:World) (hs:s≤3) :
  Calls Tryz.prog 86 #[AV (s:Int) neg v e,.bool b] w fun x w'=>x=.returned (AV (A.mt s (if b then 2 else 1):Nat) false (.slice none 0 0) 0)∧Below w.heap.size w w':=by
 cases b
 all_goals
  rcases (show s=0∨s=1∨s=2∨s=3 by omega) with rfl | rfl | rfl | rfl
  all_goals
   go_enter Tryz.func86,Tryz.ntmps86
   go_wp2_with fail
   refine bodyPost_ret (v:=.agg #[.int .i64 _,.bool false,.slice none 0 0,.int .i64 0]) (by simp [results,Tryz.results86,go_sem];rfl) rfl ⟨rfl,?_⟩
   exact ((Below.refl _ _).alloc (Nat.le_refl _) _).trans (((Below.refl _ _).alloc (Nat.le_refl _) _).mono (by simp))
end Go.Proofs.YtjjlnmihkadlmaaGreat
namespace Go.Proofs.YtjjlnmihkadlmaaGreat
open Go.RowKit

structure DV (s:Nat) (neg:Bool) (M:Nat) (e N:Int) (k:Nat):Prop where
 s3:s≤3
 lo: -2148≤e
 hi:e≤2000
 val:sg neg M*((2^(e+2148).toNat:Nat):Int)=N
 none:s≠0→N=0
 bd:∃ K,K=4200∧N.natAbs≤k*2^K
theorem DV.zero {s:Nat} (h:s≤3) (k:Nat):DV s false 0 0 0 k:=
 ⟨h,by decide,by decide,by rw [aY,Int.zero_mul],fun _=>rfl,4200,rfl,Nat.zero_le _⟩
theorem DV.mono {s:Nat} {neg:Bool} {M:Nat} {e N:Int} {k k':Nat} (h:DV s neg M e N k) (hk:k≤k'):DV s neg M e N k':=by
 obtain⟨K,hK,hb⟩:=h.bd
 exact⟨h.s3,h.lo,h.hi,h.val,h.none,K,hK,Nat.le_trans hb (Nat.mul_le_mul_right _ hk)⟩
theorem DV.le {s:Nat} {neg:Bool} {M:Nat} {e N:Int} {k:Nat} (h:DV s neg M e N k):M≤N.natAbs:=by
 rw [← h.val,Int.natAbs_mul,dj,Int.natAbs_natCast]
 exact Nat.le_mul_of_pos_right _ (Nat.two_pow_pos _)
def EC (k:Nat):Prop:=∃ j,j=150∧k≤2^j
theorem DV.nd {s:Nat} {neg:Bool} {M:Nat} {e N:Int} {k:Nat} (h:DV s neg M e N k) (hk:EC k):nd M≤1000∧nd M≤137:=by
 obtain⟨K,hK,hb⟩:=h.bd
 obtain⟨j,hj,hk⟩:=hk
 have h1:M<2^(K+j+1):=by
  have h0:=h.le
  have h2:k*2^K≤2^j*2^K:=Nat.mul_le_mul_right _ hk
  rw [← Nat.pow_add] at h2
  rw [Nat.pow_succ,Nat.add_comm K j]
  have h3:=Nat.two_pow_pos (j+K)
  generalize 2^(j+K)=P at *
  omega
 obtain⟨c,hc⟩:∃ c:Nat,c=137:=⟨_,rfl⟩
 have:=ct (N:=M) (k:=c) (Nat.lt_of_lt_of_le h1 (Nat.pow_le_pow_right (by decide) (by omega)))
 omega

structure PL (M X:Nat) (nm nx:Bool) (e ex E:Int) (n m:Nat) (S T:Int) (k:Nat):Prop where
 hn:M≠0→e - E=(n:Int)
 hm:X≠0→ex - E=(m:Int)
 hn1:n≤5000
 hm1:m≤5000
 lo: -2148≤E
 hi:E≤2000
 hk:E+2148=(k:Int)
 had:nd (M*2^n)≤10000000
 hbd:nd (X*2^m)≤10000000
 val:S*((2^k:Nat):Int)=T
theorem sH {M n:Nat} (h:nd M≤1000) (hn:n≤5000):nd (M*2^n)≤10000000:=by
 have h1:M*2^n<2^(32*nd M)*2^n:=Nat.mul_lt_mul_of_pos_right (cG M) (Nat.two_pow_pos _)
 rw [← Nat.pow_add] at h1
 have:=ct (N:=M*2^n) (k:=nd M+n / 32+1) (Nat.lt_of_lt_of_le h1 (Nat.pow_le_pow_right (by decide) (by omega)))
 omega
theorem oE {M n k:Nat} {neg:Bool} {e:Int} (hk:M≠0→n+k=(e+2148).toNat):sg neg (M*2^n)*((2^k:Nat):Int)=sg neg M*((2^(e+2148).toNat:Nat):Int):=by
 rw [← fF,← fF,Nat.mul_assoc,← Nat.pow_add]
 by_cases h0:M=0
 ·rw [h0,Nat.zero_mul,Nat.zero_mul]
 ·rw [hk h0]
theorem Hv {M X:Nat} {nm nx:Bool} {e ex E:Int} (h1: -2148≤e) (h2:e≤2000) (h3: -2148≤ex) (h4:ex≤2000) (hM:nd M≤1000) (hX:nd X≤1000) (hE:gk M e X ex=E) :
  ∃ n m k,PL M X nm nx e ex E n m (sg nm (M*2^n)+sg nx (X*2^m)) (sg nm M*((2^(e+2148).toNat:Nat):Int)+sg nx X*((2^(ex+2148).toNat:Nat):Int)) k:=by
 have hEr: -2148≤E∧E≤2000∧(M≠0→E≤e)∧(X≠0→E≤ex):=by
  rw [← hE];unfold gk
  by_cases a:M=0
  ·rw [if_pos a];refine⟨h3,h4,fun h=>absurd a h,fun _=>Int.le_refl _⟩
  ·rw [if_neg a]
   by_cases b:X=0
   ·rw [if_pos b];exact⟨h1,h2,fun _=>Int.le_refl _,fun h=>absurd b h⟩
   ·rw [if_neg b];refine⟨by omega,by omega,fun _=>by omega,fun _=>by omega⟩
 obtain⟨e1,e2,e3,e4⟩:=hEr
 refine⟨(e - E).toNat,(ex - E).toNat,(E+2148).toNat,fun h=>by have:=e3 h;omega,fun h=>by have:=e4 h;omega,by omega,by omega,e1,e2,by omega,sH hM (by omega),sH hX (by omega),?_⟩
 rw [Int.add_mul,oE (e:=e) (fun h=>by have:=e3 h;omega),oE (e:=ex) (fun h=>by have:=e4 h;omega)]
theorem ED {s M X N' n m k kk kk':Nat} {nm nx neg':Bool} {e ex E E' T:Int} (h:PL M X nm nx e ex E n m (sg nm (M*2^n)+sg nx (X*2^m)) T k) (hs:sg neg' N'=sg nm (M*2^n)+sg nx (X*2^m)) (hE:E'=E∨(E'=0∧N'=0)) (hs0:s=0) (hb:∃ K,K=4200∧T.natAbs≤kk*2^K) (hkk:kk≤kk'):DV s neg' N' E' T kk':=by
 obtain⟨K,hK,hb⟩:=hb
 have hv:=h.val
 rw [← hs] at hv
 have hlo:=h.lo
 have hhi:=h.hi
 have hk:=h.hk
 refine⟨by omega,by omega,by omega,?_,fun c=>absurd hs0 c,K,hK,Nat.le_trans hb (Nat.mul_le_mul_right _ hkk)⟩
 rcases hE with e1 | ⟨e1,e2⟩
 ·rw [e1,show (E+2148).toNat=k by omega];exact hv
 ·rw [e2,aY,Int.zero_mul] at hv ⊢;exact hv

theorem BO {p:Nat} {neg:Bool} {N:Nat} {e:Int} (h:OfR p neg N e) (h64:p<18446744073709551616) (hn:af p):aC (p:Int)*((2^(aP (p:Int)+2148).toNat:Nat):Int)=sg neg N*((2^(e+2148).toNat:Nat):Int)∧aD (p:Int)=true∧(N≠0→aC (p:Int)=sg neg N∧aP (p:Int)=e)∧(N=0→aC (p:Int)=0):=by
 have hsz:=fw p
 have hn':=hn
 unfold af at hn'
 have hok:aD (p:Int)=true:=by unfold aD;rw [hsz];simp;omega
 have key:(N≠0→aC (p:Int)=sg neg N∧aP (p:Int)=e)∧(N=0→aC (p:Int)=0):=by
  refine⟨fun h0=>?_,fun h0=>?_⟩
  ·obtain⟨m1,m2⟩:=h.mag h0
   have hr0:p % 9223372036854775808≠0:=by
    intro e0;rw [e0] at m1;exact h0 (by rw [m1];decide)
   have g1:eB ((p % 9223372036854775808:Nat):Int)=(mg (p % 9223372036854775808):Int):=by
    generalize p % 9223372036854775808=r at *
    unfold eB mg
    by_cases c:r<4503599627370496
    ·rw [if_pos c,if_pos (by omega)]
    ·rw [if_neg c,if_neg (by omega)];omega
   have g2:ir ((p % 9223372036854775808:Nat):Int)= -1074+(pl (p % 9223372036854775808):Int):=by
    generalize p % 9223372036854775808=r at *
    unfold ir pl
    by_cases c:r<4503599627370496
    ·rw [if_pos (by omega)];omega
    ·rw [if_neg (by omega)];omega
   constructor
   ·unfold aC
    rw [hok,if_pos rfl,hsz,g1,← m1,ek h64,← h.sgn h0]
    rfl
   ·unfold aP
    rw [hok,hsz,g2,← m2,show decide (((p % 9223372036854775808:Nat):Int)≠0)=true by simpa using fun h=>hr0 (by omega)]
    rfl
  ·have hz:p % 9223372036854775808=0:=by
    have:=h.val
    rw [h0,Nat.zero_mul] at this
    have e9:=dI (r:=p % 9223372036854775808) (s:=0)
    rw [bu] at e9
    exact e9.1 this.symm
   unfold aC
   rw [hok,if_pos rfl,hsz,hz,show eB ((0:Nat):Int)=0 from rfl]
   split<;>rfl
 refine⟨?_,hok,key⟩
 by_cases h0:N=0
 ·rw [key.2 h0,h0,aY,Int.zero_mul,Int.zero_mul]
 ·rw [(key.1 h0).1,(key.1 h0).2]
theorem EE {x:Nat} {nx:Bool} {X:Nat} {ex:Int} (h:OfR x nx X ex) (h64:x<18446744073709551616) (hn:af x):sg nx X*((2^(ex+2148).toNat:Nat):Int)=A.kA (x:Int):=by
 rw [← (BO h h64 hn).1]
 unfold A.kA
 rw [Int.natCast_pow];rfl
theorem BP {x:Nat} {nx:Bool} {X:Nat} {ex:Int} (h:OfR x nx X ex):∃ K,K=4200∧(sg nx X*((2^(ex+2148).toNat:Nat):Int)).natAbs≤1*2^K:=by
 refine⟨4200,rfl,?_⟩
 obtain⟨K,hK⟩:∃ K:Nat,K=4200:=⟨_,rfl⟩
 rw [← hK]
 rw [Int.natAbs_mul,dj,Int.natAbs_natCast,Nat.one_mul]
 have h1:=h.lt
 have h2:=h.hi
 have h3:X*2^(ex+2148).toNat≤2^53*2^(ex+2148).toNat:=Nat.mul_le_mul_right _ (by omega)
 rw [← Nat.pow_add] at h3
 exact Nat.le_trans h3 (Nat.pow_le_pow_right (by decide) (by omega))
theorem Gb {A B:Int} {k:Nat} (hA:∃ K,K=4200∧A.natAbs≤k*2^K) (hB:∃ K,K=4200∧B.natAbs≤1*2^K):∃ K,K=4200∧(A+B).natAbs≤(k+1)*2^K:=by
 obtain⟨K,hK,a⟩:=hA
 obtain⟨K',hK',b⟩:=hB
 have:K'=K:=by omega
 subst this
 refine⟨K',hK,?_⟩
 rw [Nat.add_mul]
 generalize k*2^K'=P at *
 generalize 1*2^K'=Q at *
 omega
end Go.Proofs.YtjjlnmihkadlmaaGreat
namespace Go.Proofs.YtjjlnmihkadlmaaGreat
open Go.RowKit

theorem kC {w1 w:World} {s:Int} {neg:Bool} {v:Value} {e:Int} (h:Cells8 w1 w s neg v e):Cells8 w1.drew w s neg v e:=⟨h.c0,h.c1,h.c2,h.c3,h.d0,h.d1,h.d2,h.d3,h.f0,h.f1,h.f2,h.f3⟩
theorem mh {A B:Nat} {v:Value} (h:From B v) (hle:A≤B):From A v:=fun a l c e=>Nat.le_trans hle (h a l c e)
def jU (w:World) (v:Value) (M:Nat) (a:A.St) (k:Nat) (r:Ending) (w':World):Prop:=
 ∃ neg' v' M' e',r=.returned (AV (a.s:Int) neg' v' e')∧DN w' v' M'∧(v'=v∧M'=M∨From w.heap.size v')∧DV a.s neg' M' e' a.N k∧Below w.heap.size w w'
theorem kD {w w2:World} {v:Value} {M:Nat} {a:A.St} {k:Nat} {s:Int} (hs:(a.s:Int)=s) (h3:a.s≤3) (hN:a.N=0) (hb:Below w.heap.size w w2) :
  jU w v M a k (.returned (AV s false (.slice none 0 0) 0)) w2:=by
 refine⟨false,.slice none 0 0,0,0,by rw [hs],Or.inl ⟨rfl,_,_,rfl⟩,Or.inr (iY _),by rw [hN];exact DV.zero h3 k,hb⟩
theorem yM (s:Nat) (N:Int) (hs:s≤3):A.St.merge ⟨s,N⟩ ⟨3,0⟩=⟨3,0⟩:=by
 unfold A.St.merge A.mt
 rcases (show s=0∨s=1∨s=2∨s=3 by omega) with rfl | rfl | rfl | rfl<;>rfl
theorem mj {s:Nat} {N M:Int}:A.St.merge ⟨s,N⟩ ⟨0,M⟩=⟨s,if s=0 then N+M else 0⟩:=by
 unfold A.St.merge
 have e:A.mt s 0=s:=by simp [A.mt]
 simp only [e]
theorem BQ {u:Int} (h:ag u=true):A.cS u=⟨3,0⟩:=by
 have h1:aD u=false:=by
  unfold aD;unfold ag at h
  rw [decide_eq_true_eq] at h
  rw [decide_eq_false_iff_not];omega
 unfold A.cS A.endN
 rw [h1,h];rfl
theorem BR {u:Int} (h:aN u=true):A.cS u=⟨if sgB u then 2 else 1,0⟩:=by
 have h2:szI u=9218868437227405312:=by unfold aN at h;simpa using h
 have h1:aD u=false:=by unfold aD;rw [h2];rfl
 have h3:ag u=false:=by unfold ag;rw [h2];rfl
 unfold A.cS A.endN
 rw [h1,h3];rfl

set_option maxHeartbeats 1600000 in
theorem BS (s:Nat) (neg:Bool) (v:Value) (M:Nat) (e:Int) (N:Int) (k:Nat) (u:Int) (w:World) (hs:s≤3) (h:U64 u) (hn:ag u=true) :
  Calls Tryz.prog 50 #[AV (s:Int) neg v e,.int .u64 u] w (jU w v M (A.St.merge ⟨s,N⟩ (A.cS u)) k):=by
 have HN:=aa (ah u · h)
 rw [hn] at HN
 obtain⟨tg,htg⟩:∃ tg,A.St.merge ⟨s,N⟩ (A.cS u)=tg:=⟨_,rfl⟩
 have HT:Hid (tg=⟨3,0⟩):=by show _=_;rw [← htg,BQ hn,yM s N hs]
 rw [htg]
 have H8:=aa (gS w (s:Int) neg v e)
 have HB:=aa (eo w (s:Int) neg v e)
 obtain⟨c0,c1,c2,c3,d0,d1,d2,d3,f0,f1,f2,f3⟩:=H8.out
 clear h hn htg
 go_enter Tryz.func50,Tryz.ntmps50
 go_wp2_with fail
 refine (aK (HN.out _)).mono ?_
 rintro x w' ⟨rfl,rfl⟩
 go_wp2_with fail
 refine bodyPost_ret (v:=.agg #[.int .i64 3,.bool false,.slice none 0 0,.int .i64 0]) (by simp [results,Tryz.results50,go_sem]) rfl ?_
 exact kD (v:=v) (M:=M) (a:=tg) (k:=k) (s:=3) (by rw [HT.out];rfl) (by rw [HT.out];decide) (by rw [HT.out]) (((Below.refl _ _).alloc (Nat.le_refl _) _).trans (((Below.refl _ _).alloc (Nat.le_refl _) _).mono (by simp)))

set_option maxHeartbeats 1600000 in
theorem BT (s:Nat) (neg:Bool) (v:Value) (M:Nat) (e:Int) (N:Int) (k:Nat) (u:Int) (w:World) (hs:s≤3) (h:U64 u) (hn:ag u=false) (hi:aN u=true) :
  Calls Tryz.prog 50 #[AV (s:Int) neg v e,.int .u64 u] w (jU w v M (A.St.merge ⟨s,N⟩ (A.cS u)) k):=by
 have HN:=aa (ah u · h)
 have HI:=aa (aq u · h)
 rw [hn] at HN
 rw [hi] at HI
 obtain⟨b,hb⟩:∃ b,sgB u=b:=⟨_,rfl⟩
 have HNg:Hid (∀ w,Calls Tryz.prog 87 #[.int .u64 u] w fun e w'=>e=.returned (.bool b)∧w=w'):=fun w=>by
  have:=bJ u w
  rw [hb] at this
  exact aK this
 obtain⟨tg,htg⟩:∃ tg,A.St.merge ⟨s,N⟩ (A.cS u)=tg:=⟨_,rfl⟩
 obtain⟨m,hm⟩:∃ m:Nat,A.mt s (if b then 2 else 1)=m:=⟨_,rfl⟩
 have hm3:m≤3:=by rw [← hm];exact A.Fz hs (by split<;>omega)
 have hm0:m≠0:=by
  rw [← hm,Ga s _ hs (by cases b<;>simp)]
  cases b<;>simp<;>split<;>omega
 have HT:Hid (tg=⟨m,0⟩):=by
  show _=_
  rw [← htg,BR hi,hb]
  unfold A.St.merge
  dsimp only
  rw [hm,if_neg hm0]
 rw [htg]
 have HInf:=aa fun w=>EB s neg b v e w hs
 rw [hm] at HInf
 obtain⟨mi,hmi⟩:∃ mi:Int,(m:Int)=mi:=⟨_,rfl⟩
 rw [hmi] at HInf
 have HE:=aa fun (w2:World) (hb:Below w.heap.size w w2)=>kD (v:=v) (M:=M) (a:=tg) (k:=k) (s:=mi) (by rw [HT.out];exact hmi) (by rw [HT.out];exact hm3) (by rw [HT.out]) hb
 have H8:=aa (gS w (s:Int) neg v e)
 have HB:=aa (eo w (s:Int) neg v e)
 have HZ:=aa (me w (s:Int) neg v e)
 obtain⟨c0,c1,c2,c3,d0,d1,d2,d3,f0,f1,f2,f3⟩:=H8.out
 clear h hn hi htg hb hm hm0 hm3 hmi HT
 go_enter Tryz.func50,Tryz.ntmps50
 go_wp2_with fail
 refine (aK (HN.out _)).mono ?_
 rintro x w' ⟨rfl,rfl⟩
 go_wp2_with fail
 refine (aK (HI.out _)).mono ?_
 rintro x w' ⟨rfl,rfl⟩
 go_wp2_with fail
 go_region_with (first | ((go_at_call 87;refine (HNg.out _).mono ?_;rintro x w' ⟨rfl,rfl⟩)) | ((go_at_call 86;refine (HInf.out _).mono ?_;rintro x w4 ⟨rfl,hb4⟩;have HB4:=aa (HB.out.drew.trans (hb4.mono (show w.heap.size≤(boxA2 w (s:Int) neg v e).heap.size by rw [HZ.out];omega)));have G8:=aa (Cells8.below (kC H8.out) hb4 (show w.heap.size+1<(boxA2 w (s:Int) neg v e).heap.size by rw [HZ.out];omega));have k0:=G8.out.d0;have k1:=G8.out.d1;have k2:=G8.out.d2;have k3:=G8.out.d3;have l0:=G8.out.f0;have l1:=G8.out.f1;have l2:=G8.out.f2;have l3:=G8.out.f3;clear hb4)))
 all_goals
  go_wp2_with fail
  refine bodyPost_ret (v:=.agg #[.int .i64 mi,.bool false,.slice none 0 0,.int .i64 0]) (by simp [results,Tryz.results50,go_sem,k0,k1,k2,k3]) rfl ?_
  exact HE.out _ (mf HB4.out (by omega))

set_option maxHeartbeats 1600000 in
theorem yN (s:Nat) (neg:Bool) (v:Value) (M:Nat) (e:Int) (N:Int) (k x:Nat) (u:Int) (w:World) (hd:DN w v M) (hv:DV s neg M e N k) (hs0:s≠0) (h:U64 u) (hn:ag u=false) (hi:aN u=false) (hu:u=(x:Int)) :
  Calls Tryz.prog 50 #[AV (s:Int) neg v e,.int .u64 u] w (jU w v M (A.St.merge ⟨s,N⟩ (A.cS u)) (k+1)):=by
 have HN:=aa (ah u · h)
 have HI:=aa (aq u · h)
 rw [hn] at HN
 rw [hi] at HI
 obtain⟨tg,htg⟩:∃ tg,A.St.merge ⟨s,N⟩ (A.cS u)=tg:=⟨_,rfl⟩
 have HT:Hid (tg=⟨s,N⟩):=by
  show _=_
  have h1:aD u=true:=by
   have:=dQ hu hn hi
   unfold af at this
   unfold aD;rw [hu,fw];simp;omega
  have h2:A.cS u=⟨0,A.kA u⟩:=by unfold A.cS;rw [h1];rfl
  rw [← htg,h2,mj,if_neg hs0,hv.none hs0]
 rw [htg]
 obtain⟨p,l,c,rfl⟩:=hd.shape
 have HD:=aa hd
 have HV:=aa (hv.mono (show k≤k+1 by omega))
 have hne:(((s:Int) !=0))=true:=by simp;omega
 have hne2:((s:Int)==0)=false:=by simp;omega
 have H8:=aa (gS w (s:Int) neg (.slice p l c) e)
 have HB:=aa (eo w (s:Int) neg (.slice p l c) e)
 obtain⟨c0,c1,c2,c3,d0,d1,d2,d3,f0,f1,f2,f3⟩:=H8.out
 clear h hn hi htg hd hv hu hs0
 go_enter Tryz.func50,Tryz.ntmps50
 go_wp2_with fail
 refine (aK (HN.out _)).mono ?_
 rintro x w' ⟨rfl,rfl⟩
 go_wp2_with fail
 refine (aK (HI.out _)).mono ?_
 rintro x w' ⟨rfl,rfl⟩
 go_wp2_with fail
 refine bodyPost_ret (v:=.agg #[.int .i64 (s:Int),.bool neg,.slice p l c,.int .i64 e]) (by simp [results,Tryz.results50,go_sem]) rfl ?_
 have hbl:Below w.heap.size w ((w.alloc (.cells #[.int .i64 (s:Int),.bool neg,.slice p l c,.int .i64 e] 34)).alloc (.cells #[.int .i64 (s:Int),.bool neg,.slice p l c,.int .i64 e] 34)):=((Below.refl _ _).alloc (Nat.le_refl _) _).trans (((Below.refl _ _).alloc (Nat.le_refl _) _).mono (by simp))
 rw [HT.out]
 exact⟨neg,.slice p l c,M,e,rfl,HD.out.below hbl,Or.inl ⟨rfl,rfl⟩,HV.out,hbl⟩

set_option maxHeartbeats 1600000 in
theorem BU (neg:Bool) (v:Value) (M:Nat) (e:Int) (N:Int) (k x:Nat) (u:Int) (w:World) (hd:DN w v M) (hv:DV 0 neg M e N k) (hk:EC k) (h:U64 u) (hn:ag u=false) (hi:aN u=false) (hu:Hid (u=(x:Int))) :
  Calls Tryz.prog 50 #[AV 0 neg v e,.int .u64 u] w (jU w v M (A.St.merge ⟨0,N⟩ (A.cS u)) (k+1)):=by
 have HN:=aa (ah u · h)
 have HI:=aa (aq u · h)
 rw [hn] at HN
 rw [hi] at HI
 have hxn:=dQ hu.out hn hi
 have hx64:x<18446744073709551616:=by have:=h.2;rw [hu.out] at this;omega
 have HO:=aa fun w=>eC x u w hu h hxn
 obtain⟨tg,htg⟩:∃ tg,A.St.merge ⟨0,N⟩ (A.cS u)=tg:=⟨_,rfl⟩
 have HT:Hid (tg=⟨0,N+A.kA (x:Int)⟩):=by
  show _=_
  have h1:aD u=true:=by
   unfold af at hxn
   unfold aD;rw [hu.out,fw];simp;omega
  have h2:A.cS u=⟨0,A.kA u⟩:=by unfold A.cS;rw [h1];rfl
  rw [← htg,h2,mj,if_pos rfl,hu.out]
 rw [htg]
 obtain⟨p,l,c,rfl⟩:=hd.shape
 have HD:=aa fun w' (hb:Below w.heap.size w w')=>hd.below hb
 have HV:=aa hv
 have H8:=aa (gS w 0 neg (.slice p l c) e)
 have HB:=aa (eo w 0 neg (.slice p l c) e)
 have HZ:=aa (me w 0 neg (.slice p l c) e)
 have HX:=aa (And.intro hxn hx64)
 obtain⟨c0,c1,c2,c3,d0,d1,d2,d3,f0,f1,f2,f3⟩:=H8.out
 clear h hn hi htg hd hv hxn hx64
 go_enter Tryz.func50,Tryz.ntmps50
 go_wp2_with fail
 refine (aK (HN.out _)).mono ?_
 rintro x w' ⟨rfl,rfl⟩
 go_wp2_with fail
 refine (aK (HI.out _)).mono ?_
 rintro x w' ⟨rfl,rfl⟩
 go_wp2_with fail
 go_region_with (first | ((go_at_call 89;refine (HO.out _).mono ?_;rintro r w3 ⟨nx,vx,X,ex,rfl,hdx,hX,hb3⟩;obtain⟨px,lx,cx,rfl⟩:=hdx.shape;have HB3:=aa (HB.out.drew.trans (hb3.mono (show w.heap.size≤(boxA2 w 0 neg (.slice p l c) e).heap.size by rw [HZ.out];omega)));have G8:=aa (Cells8.below (kC H8.out) hb3 (show w.heap.size+1<(boxA2 w 0 neg (.slice p l c) e).heap.size by rw [HZ.out];omega));have hz3:w.heap.size+2≤w3.heap.size:=(by have h9:=hb3.size;have h8:(boxA2 w 0 neg (.slice p l c) e).heap.size≤w3.heap.size:=h9;rw [HZ.out] at h8;exact h8);have HDx:=aa hdx;have HOX:=aa hX;have g1:=G8.out.c1;have g2:=G8.out.c2;have g3:=G8.out.c3;clear hb3 hdx hX)) | ((go_at_call 88;obtain⟨E,hE⟩:∃ E,gk M e X ex=E:=⟨_,rfl⟩;obtain⟨n,m,kk,hPL⟩:=Hv (nm:=neg) (nx:=nx) HV.out.lo HV.out.hi (show -2148≤ex by have:=HOX.out.lo;omega) (show ex≤2000 by have:=HOX.out.hi;omega) (HV.out.nd hk).1 (show nd X≤1000 by have:=dy HOX.out.lt;omega) hE;refine (plus_any neg nx (.slice p l c) (.slice px lx cx) e ex E M X n m w3 (HD.out _ HB3.out) HDx.out hE hPL.hn hPL.hm (by have:=hPL.hn1;omega) (by have:=hPL.hm1;omega) (by have:=HV.out.nd hk;omega) (by have:=dy HOX.out.lt;omega) hPL.had hPL.hbd).mono ?_;rintro r w4 ⟨neg',v',N',E',rfl,hd4,hf4,hs4,hE4,hb4⟩;obtain⟨p4,l4,c4,rfl⟩:=hd4.shape;have HDV:Hid (DV 0 neg' N' E' (N+A.kA (x:Int)) (k+1)):=(by have hT:=ED (s:=0) (kk:=k+1) (kk':=k+1) hPL hs4 hE4 rfl (by rw [HV.out.val];exact Gb HV.out.bd (BP HOX.out)) (Nat.le_refl _);rw [HV.out.val,EE HOX.out HX.out.2 HX.out.1] at hT;exact hT);have HB4:=aa (HB3.out.trans (hb4.mono HB3.out.size));have K8:=aa (G8.out.below hb4 (show w.heap.size+1<w3.heap.size by omega));have HD4:=aa hd4;have HF4:=aa (mh hf4 hz3);have k0:=K8.out.d0;have k1:=K8.out.d1;have k2:=K8.out.d2;have k3:=K8.out.d3;have l0:=K8.out.f0;have l1:=K8.out.f1;have l2:=K8.out.f2;have l3:=K8.out.f3;clear hd4 hf4 hs4 hE4 hb4 hPL hE)))
 all_goals
  go_wp2_with fail
  refine bodyPost_ret (v:=.agg #[.int .i64 0,.bool neg',.slice p4 l4 c4,.int .i64 E']) (by simp [results,Tryz.results50,go_sem,k0,k1,k2,k3]) rfl ?_
  rw [HT.out]
  exact⟨neg',_,N',E',rfl,EA HD4.out HF4.out (by omega),Or.inr (mh HF4.out (by omega)),HDV.out,mf HB4.out (by omega)⟩

theorem In (s:Nat) (neg:Bool) (v:Value) (M:Nat) (e:Int) (N:Int) (k x:Nat) (u:Int) (w:World) (hd:DN w v M) (hv:DV s neg M e N k) (hk:EC k) (h:U64 u) (hu:Hid (u=(x:Int))) :
  Calls Tryz.prog 50 #[AV (s:Int) neg v e,.int .u64 u] w (jU w v M (A.St.merge ⟨s,N⟩ (A.cS u)) (k+1)):=by
 cases hn:ag u with
 | true=>exact BS s neg v M e N (k+1) u w hv.s3 h hn
 | false=>
  cases hi:aN u with
  | true=>exact BT s neg v M e N (k+1) u w hv.s3 h hn hi
  | false=>
   by_cases h0:s=0
   ·subst h0;exact BU neg v M e N k x u w hd hv hk h hn hi hu
   ·exact yN s neg v M e N k x u w hd hv h0 h hn hi hu.out
end Go.Proofs.YtjjlnmihkadlmaaGreat
namespace Go.Proofs.YtjjlnmihkadlmaaGreat.A
open Go.RowKit

theorem EF {o:Option Nat} {r:Nat} (h:Ag o r):cS (r:Int)=cS (cn o:Int):=by
 cases o with
 | some q=>rw [dh h,ar]
 | none=>
  have f:∀ {b:Nat},ag (b:Int)=true→cS (b:Int)=⟨3,0⟩:=fun {b} hb=>by
   have h1:aD (b:Int)=false:=by
    unfold aD;unfold ag at hb
    rw [decide_eq_true_eq] at hb
    rw [decide_eq_false_iff_not];omega
   unfold cS endN
   rw [h1,hb];rfl
  rw [f (fB h).1,ji,f lQ]
def cI (x y:Nat):St:=if aD (x:Int)&&aD (y:Int) then ju (x:Int) (y:Int) else cS (cn (floatBits .mul .f64 x y):Int)

set_option maxHeartbeats 800000 in
theorem BV (B b:Nat) (v:Value) (L:Nat) (a:St) (x y:Nat) (w:World) (h:AccAt w B b v L a) (hB:B≤w.heap.size) (hx:U64 (x:Int)) (hy:U64 (y:Int)) (hno:(aD (x:Int)&&aD (y:Int))=false) (hL:L≤40000) :
  Calls Tryz.prog 94 #[.pointer (some ⟨b,0,none⟩),.float .f64 x,.float .f64 y] w fun r w'=>r=.returned (.tuple #[])∧∃ q v',Did (w.drewN q) w' B b v (max L 70+1) (a.merge (cI x y)) v':=by
 have HS:=hideS (dO x x w rfl hx)
 have HS':=hideS (dO y y w rfl hy)
 obtain⟨r,⟨q,r1⟩,g⟩:=dc .mul (by simp) 54 x y w
 have hr64:r<18446744073709551616:=by
  cases hf:floatBits .mul .f64 x y with
  | none=>rw [hf] at g;exact (fB g).2
  | some z=>rw [hf] at g;rw [dh g];exact jm (by simp) hf
 have HAd:=hideS (Ez B b v L a r r (w.drewN q) (h.drewN q) hB rfl (an hr64) hL)
 have HR:Hid (a.merge (cS (r:Int))=a.merge (cI x y)):=by
  show _=_
  unfold cI
  rw [hno,if_neg (by decide),EF g]
 rw [HR.out] at HAd
 clear h hx hy g hr64 HR
 cases h1:aD (x:Int)
 ·rw [h1] at HS
  clear hno h1
  go_enter Tryz.func94,Tryz.ntmps94
  go_wp2_with fail
  refine (turned HS.out).mono ?_
  rintro e w' ⟨rfl,rfl⟩
  go_wp2_with fail
  refine (turned HS'.out).mono ?_
  rintro e w' ⟨rfl,rfl⟩
  go_wp2_with fail
  refine HAd.out.mono ?_
  rintro e w1 ⟨rfl,v1,hd⟩
  have HD:=hideS hd
  clear hd
  go_wp2_with fail
  first | go_end0 | refine bodyPost_ret (results_none rfl _ _ _) rfl ?_
  exact⟨rfl,q,v1,HD.out⟩
 ·rw [h1,Bool.true_and] at hno
  rw [h1] at HS
  rw [hno] at HS'
  clear hno h1
  go_enter Tryz.func94,Tryz.ntmps94
  go_wp2_with fail
  refine (turned HS.out).mono ?_
  rintro e w' ⟨rfl,rfl⟩
  go_wp2_with fail
  refine (turned HS'.out).mono ?_
  rintro e w' ⟨rfl,rfl⟩
  go_wp2_with fail
  refine HAd.out.mono ?_
  rintro e w1 ⟨rfl,v1,hd⟩
  have HD:=hideS hd
  clear hd
  go_wp2_with fail
  first | go_end0 | refine bodyPost_ret (results_none rfl _ _ _) rfl ?_
  exact⟨rfl,q,v1,HD.out⟩

theorem eV (B b:Nat) (v:Value) (L:Nat) (a:St) (x y:Nat) (w:World) (h:AccAt w B b v L a) (hB:B≤w.heap.size) (hx:U64 (x:Int)) (hy:U64 (y:Int)) (hL:L≤40000) :
  Calls Tryz.prog 94 #[.pointer (some ⟨b,0,none⟩),.float .f64 x,.float .f64 y] w fun r w'=>r=.returned (.tuple #[])∧∃ q v',Did (w.drewN q) w' B b v (max L 70+1) (a.merge (cI x y)) v':=by
 cases hno:(aD (x:Int)&&aD (y:Int)) with
 | false=>exact BV B b v L a x y w h hB hx hy hno hL
 | true=>
  rw [Bool.and_eq_true] at hno
  have e:cI x y=ju (x:Int) (y:Int):=by unfold cI;rw [hno.1,hno.2];rfl
  rw [e]
  exact (sE B b v L a x y x y w h hB rfl hx rfl hy hno.1 hno.2 hL).mono fun _ _ ⟨a1,v',hd⟩=>⟨a1,0,v',hd⟩

end Go.Proofs.YtjjlnmihkadlmaaGreat.A
namespace Go.Proofs.YtjjlnmihkadlmaaGreat
open Go.RowKit

end Go.Proofs.YtjjlnmihkadlmaaGreat
namespace Go.Proofs.YtjjlnmihkadlmaaGreat
open Go.RowKit

def Three (w':World) (B:Nat) (neg:Bool) (v:Value) (e:Int):Prop:=
 w'.cell? ⟨B,1,none⟩=some (.bool neg)∧w'.cell? ⟨B,2,none⟩=some v∧w'.cell? ⟨B,3,none⟩=some (.int .i64 e)
end Go.Proofs.YtjjlnmihkadlmaaGreat
namespace Go.Proofs.YtjjlnmihkadlmaaGreat
open Go.RowKit

end Go.Proofs.YtjjlnmihkadlmaaGreat
namespace Go.Proofs.YtjjlnmihkadlmaaGreat
open Go.RowKit

structure Held (w wr:World) (B:Nat) (a:A.St) (k:Nat):Prop where
 ex:∃ neg v M e,wr.heap[B]? =some (.cells #[.int .i64 (a.s:Int),.bool neg,v,.int .i64 e] 34 (0,0))∧DN wr v M∧From (B+1) v∧DV a.s neg M e a.N k
 bl:Below w.heap.size w wr
 lo:w.heap.size≤B
 lt:B<wr.heap.size
end Go.Proofs.YtjjlnmihkadlmaaGreat
namespace Go.Proofs.YtjjlnmihkadlmaaGreat
open Go.RowKit

theorem BW (q:Nat) (m:Nat) (h0:q≠0) (hm:m≤1):(2*q+m).log2=q.log2+1:=by
 have a:=Nat.log2_self_le h0
 have b:q<2^(q.log2+1):=Nat.lt_log2_self
 have c:(2*q+m).log2<q.log2+1+1:=(Nat.log2_lt (by omega)).2 (by rw [Nat.pow_succ];omega)
 have d:q.log2+1≤(2*q+m).log2:=(Nat.le_log2 (by omega)).2 (by rw [Nat.pow_succ];omega)
 omega
theorem BX {q:Nat} (more:Bool):nearR (mant q more) (ib q)=nearR (2*q+more.toNat) (-2149):=by
 have hm:more.toNat≤1:=by cases more<;>decide
 by_cases hl:q.log2<61
 ·have hq:q<2^61:=by
   by_cases h0:q=0
   ·rw [h0];decide
   ·exact (Nat.log2_lt h0).1 hl
  have h1:=Ec q more
  have h2:ib q< -1139:=by unfold ib;split<;>omega
  rw [fZ (by omega) h2,fZ (by omega) (by decide)]
 ·have h0:q≠0:=fun c=>by rw [c] at hl;exact hl (by decide)
  obtain⟨t,ht⟩:∃ t,q.log2=t+61:=⟨q.log2 - 61,by omega⟩
  have e1:mant q more=bZ (2*q+more.toNat) (t+1) false:=by
   unfold mant bZ
   rw [if_neg h0,ht,show t+61+3=64+t by omega,Nat.pow_add 2 64 t,Nat.mul_comm q,Nat.mul_mod_mul_left,Nat.mul_div_mul_left _ _ (Nat.two_pow_pos 64),show (2:Nat)^(t+1)=2*2^t by rw [Nat.pow_succ,Nat.mul_comm]]
   have hd:(2*q+more.toNat) / (2*2^t)=q / 2^t:=by
    rw [← Nat.div_div_eq_div_mul]
    congr 1
    omega
   have hr:(2*q+more.toNat) % (2*2^t)=2*(q % 2^t)+more.toNat:=by
    have e:=Nat.div_add_mod q (2^t)
    have hlt:q % 2^t<2^t:=Nat.mod_lt _ (Nat.two_pow_pos t)
    generalize q / 2^t=Q at *
    generalize q % 2^t=R at *
    generalize 2^t=T at *
    have e2:2*q+more.toNat=2*R+more.toNat+2*T*Q:=by rw [← e,Nat.mul_add,Nat.mul_assoc];omega
    rw [e2,Nat.add_mul_mod_self_left,Nat.mod_eq_of_lt (by omega)]
   rw [hd,hr]
   have hp:=Nat.two_pow_pos 64
   have hz:(2^64*(q % 2^t)=0∧more=false)↔(2*(q % 2^t)+more.toNat=0∧(false:Bool)=false):=by
    constructor
    ·rintro⟨a,b⟩
     rcases Nat.mul_eq_zero.1 a with c | c
     ·omega
     ·rw [c,b];exact⟨rfl,rfl⟩
    ·rintro⟨a,_⟩
     have c:q % 2^t=0:=by omega
     refine⟨by rw [c,Nat.mul_zero],?_⟩
     cases more
     ·rfl
     ·rw [c] at a;exact absurd a (by decide)
   simp only [hz]
  have e2:ib q=((t+1:Nat):Int)+ -2149:=by unfold ib;rw [if_neg h0,ht];omega
  rw [e1,e2,jp (by omega) (by rw [BW q _ h0 hm,ht];omega)]
theorem BY {q:Nat} {more:Bool} (h:q≠0∨more=true):mant q more≠0:=by
 unfold mant
 by_cases h0:q=0
 ·rw [if_pos h0]
  rcases h with h | h
  ·exact absurd h0 h
  ·rw [h];decide
 ·rw [if_neg h0]
  have hp:=Nat.two_pow_pos 64
  have hq:q*2^64≠0:=fun c=>by
   rcases Nat.mul_eq_zero.1 c with c | c<;>omega
  have hl:q.log2+3≤(q*2^64).log2:=by rw [cH h0];omega
  exact (cY more hl hq).2
theorem yO (N:Int) (d:Nat):A.kB N d=if N=0 then 0 else wrd (decide (N<0)) (nearR (bf N.natAbs d 0) (-2149)):=by
 unfold A.kB
 have hq:bf N.natAbs d 0=2*(N.natAbs / d)+(decide (N.natAbs % d≠0)).toNat:=by
  unfold bf
  rw [Nat.pow_zero,Nat.mul_one]
  by_cases hr:N.natAbs % d=0<;>simp [hr]
 rw [hq,← BX]
 by_cases h0:N=0
 ·rw [if_pos h0,h0]
  have:(0:Int).natAbs=0:=rfl
  rw [this,Nat.zero_div,Nat.zero_mod]
  rfl
 ·rw [if_neg h0]
  have hm:mant (N.natAbs / d) (decide (N.natAbs % d≠0))≠0:=by
   apply BY
   by_cases hr:N.natAbs % d=0
   ·refine Or.inl (fun c=>?_)
    have:=Nat.div_add_mod N.natAbs d
    rw [c,hr,Nat.mul_zero] at this
    omega
   ·exact Or.inr (by simp [hr])
  generalize mant (N.natAbs / d) (decide (N.natAbs % d≠0))=m at *
  generalize ib (N.natAbs / d)=ex at *
  unfold aG sgM wrd
  by_cases hn:N<0
  ·simp only [hn,decide_true,if_true]
   rw [if_neg (by omega),if_pos (by omega),Int.natAbs_neg,Int.natAbs_natCast]
  ·simp only [hn,decide_false,Bool.false_eq_true,if_false]
   rw [if_neg (by omega),if_neg (by omega),Int.natAbs_natCast]
end Go.Proofs.YtjjlnmihkadlmaaGreat
namespace Go.Proofs.YtjjlnmihkadlmaaGreat
open Go.RowKit

def cP (a:A.St) (n:Nat):Nat:=if a.s=0 then A.kB a.N n else A.mc a
end Go.Proofs.YtjjlnmihkadlmaaGreat
