/-  -/
import Derived.Test.YtjjlnmihkadlmaaGreatHaz
import Derived.Test.YtjjlnmihkadlmaaGreatHbm
import Derived.Test.YtjjlnmihkadlmaaGreatHaq
import Derived.Test.YtjjlnmihkadlmaaGreatHba
import Derived.Test.YtjjlnmihkadlmaaGreatHbb
namespace Go.Proofs.YtjjlnmihkadlmaaGreat
open Go.RowKit

abbrev AV (s:Int) (neg:Bool) (v:Value) (e:Int):Value:=.agg #[.int .i64 s,.bool neg,v,.int .i64 e]
abbrev boxA (w:World) (s:Int) (neg:Bool) (v:Value) (e:Int):World:=w.alloc (.cells #[.int .i64 s,.bool neg,v,.int .i64 e] 34)
abbrev boxA2 (w:World) (s:Int) (neg:Bool) (v:Value) (e:Int):World:=boxA (boxA w s neg v e) 0 false (.slice none 0 0) 0
theorem gn (w:World) (s:Int) (neg:Bool) (v:Value) (e:Int):(boxA2 w s neg v e).heap.size=w.heap.size+2:=by simp
theorem cO (w:World) (s:Int) (neg:Bool) (v:Value) (e:Int):Below w.heap.size w (boxA2 w s neg v e):=
 ((Below.refl _ _).alloc (Nat.le_refl _) _).trans (((Below.refl _ _).alloc (Nat.le_refl _) _).mono (by simp))
structure Cells8 (w' w:World) (s:Int) (neg:Bool) (v:Value) (e:Int):Prop where
 c0:w'.cell? ⟨w.heap.size,0,none⟩=some (.int .i64 s)
 c1:w'.cell? ⟨w.heap.size,1,none⟩=some (.bool neg)
 c2:w'.cell? ⟨w.heap.size,2,none⟩=some v
 c3:w'.cell? ⟨w.heap.size,3,none⟩=some (.int .i64 e)
 d0:w'.cell? ⟨w.heap.size+1,0,none⟩=some (.int .i64 0)
 d1:w'.cell? ⟨w.heap.size+1,1,none⟩=some (.bool false)
 d2:w'.cell? ⟨w.heap.size+1,2,none⟩=some (.slice none 0 0)
 d3:w'.cell? ⟨w.heap.size+1,3,none⟩=some (.int .i64 0)
 f0:w'.frozen? ⟨w.heap.size+1,0,none⟩=false
 f1:w'.frozen? ⟨w.heap.size+1,1,none⟩=false
 f2:w'.frozen? ⟨w.heap.size+1,2,none⟩=false
 f3:w'.frozen? ⟨w.heap.size+1,3,none⟩=false
theorem dl (w:World) (s:Int) (neg:Bool) (v:Value) (e:Int):Cells8 (boxA2 w s neg v e) w s neg v e:=by
 have hb:Below (boxA w s neg v e).heap.size (boxA w s neg v e) (boxA2 w s neg v e):=(Below.refl _ _).alloc (Nat.le_refl _) _
 have hs:w.heap.size<(boxA w s neg v e).heap.size:=by simp
 have e1:w.heap.size+1=(boxA w s neg v e).heap.size:=by simp
 refine⟨?_,?_,?_,?_,?_,?_,?_,?_,?_,?_,?_,?_⟩
 ·rw [hb.cell (p:=⟨w.heap.size,0,none⟩) hs];simp
 ·rw [hb.cell (p:=⟨w.heap.size,1,none⟩) hs];simp
 ·rw [hb.cell (p:=⟨w.heap.size,2,none⟩) hs];simp
 ·rw [hb.cell (p:=⟨w.heap.size,3,none⟩) hs];simp
 ·rw [e1];simp
 ·rw [e1];simp
 ·rw [e1];simp
 ·rw [e1];simp
 ·rw [e1];exact World.frozen?_alloc_new _ _ _ _
 ·rw [e1];exact World.frozen?_alloc_new _ _ _ _
 ·rw [e1];exact World.frozen?_alloc_new _ _ _ _
 ·rw [e1];exact World.frozen?_alloc_new _ _ _ _
theorem Cells8.below {w1 w2 w:World} {s:Int} {neg:Bool} {v:Value} {e:Int} {b:Nat} (h:Cells8 w1 w s neg v e) (hb:Below b w1 w2) (hs:w.heap.size+1<b):Cells8 w2 w s neg v e:=by
 have h0:w.heap.size<b:=by omega
 exact⟨(hb.cell (p:=⟨w.heap.size,0,none⟩) h0).trans h.c0,(hb.cell (p:=⟨w.heap.size,1,none⟩) h0).trans h.c1,(hb.cell (p:=⟨w.heap.size,2,none⟩) h0).trans h.c2,(hb.cell (p:=⟨w.heap.size,3,none⟩) h0).trans h.c3,
  (hb.cell (p:=⟨w.heap.size+1,0,none⟩) hs).trans h.d0,(hb.cell (p:=⟨w.heap.size+1,1,none⟩) hs).trans h.d1,(hb.cell (p:=⟨w.heap.size+1,2,none⟩) hs).trans h.d2,(hb.cell (p:=⟨w.heap.size+1,3,none⟩) hs).trans h.d3,
  (hb.frozen (p:=⟨w.heap.size+1,0,none⟩) hs).trans h.f0,(hb.frozen (p:=⟨w.heap.size+1,1,none⟩) hs).trans h.f1,(hb.frozen (p:=⟨w.heap.size+1,2,none⟩) hs).trans h.f2,(hb.frozen (p:=⟨w.heap.size+1,3,none⟩) hs).trans h.f3⟩
abbrev put4 (w:World) (b:Nat) (s:Int) (neg:Bool) (v:Value) (e:Int):World:=
 (((w.setCell ⟨b,0,none⟩ (.int .i64 s)).setCell ⟨b,1,none⟩ (.bool neg)).setCell ⟨b,2,none⟩ v).setCell ⟨b,3,none⟩ (.int .i64 e)
theorem dm {w w1:World} {B b:Nat} {s:Int} {neg:Bool} {v:Value} {e:Int} (h:Below B w w1) (hb:B≤b):Below B w (put4 w1 b s neg v e):=
 (((h.setCell (p:=⟨b,0,none⟩) hb _).setCell (p:=⟨b,1,none⟩) hb _).setCell (p:=⟨b,2,none⟩) hb _).setCell (p:=⟨b,3,none⟩) hb _
theorem lW {w:World} {b B M:Nat} {s:Int} {neg:Bool} {v u:Value} {e:Int} (h:DN w u M) (hf:From B u) (hb:b<B):DN (put4 w b s neg v e) u M:=
 (((h.set hf (a:=⟨b,0,none⟩) hb _).set hf (a:=⟨b,1,none⟩) hb _).set hf (a:=⟨b,2,none⟩) hb _).set hf (a:=⟨b,3,none⟩) hb _

theorem Jm (s:Nat) (t:Nat) (hs:s≤3) (ht:t=1∨t=2):A.mt s t=if s=0∨s=t then t else 3:=by
 unfold A.mt
 rcases ht with rfl | rfl
 all_goals rcases (show s=0∨s=1∨s=2∨s=3 by omega) with rfl | rfl | rfl | rfl<;>decide

set_option maxHeartbeats 1600000 in
theorem Hd (s:Nat) (neg b:Bool) (v:Value) (e:Int) (w:World) (hs:s≤3) :
  Calls Tryz.prog 86 #[AV (s:Int) neg v e,.bool b] w fun x w'=>x=.returned (AV (A.mt s (if b then 2 else 1):Nat) false (.slice none 0 0) 0)∧Below w.heap.size w w':=by
 cases b
 all_goals
  rcases (show s=0∨s=1∨s=2∨s=3 by omega) with rfl | rfl | rfl | rfl
  all_goals
   go_enter Tryz.func86,Tryz.ntmps86
   go_wp2_with fail
   refine bodyPost_ret (v:=.agg #[.int .i64 _,.bool false,.slice none 0 0,.int .i64 0]) (by simp [results,Tryz.results86,go_sem];rfl) rfl ⟨rfl,?_⟩
   exact ((Below.refl _ _).alloc (Nat.le_refl _) _).trans (((Below.refl _ _).alloc (Nat.le_refl _) _).mono (by simp))
end Go.Proofs.YtjjlnmihkadlmaaGreat
namespace Go.Proofs.YtjjlnmihkadlmaaGreat
open Go.RowKit

structure DV (s:Nat) (neg:Bool) (M:Nat) (e N:Int) (k:Nat):Prop where
 s3:s≤3
 lo: -2148≤e
 hi:e≤2000
 val:sg neg M*((2^(e+2148).toNat:Nat):Int)=N
 none:s≠0→N=0
 bd:∃ K,K=4200∧N.natAbs≤k*2^K
theorem DV.zero {s:Nat} (h:s≤3) (k:Nat):DV s false 0 0 0 k:=
 ⟨h,by decide,by decide,by rw [aL,Int.zero_mul],fun _=>rfl,4200,rfl,Nat.zero_le _⟩
theorem DV.mono {s:Nat} {neg:Bool} {M:Nat} {e N:Int} {k k':Nat} (h:DV s neg M e N k) (hk:k≤k'):DV s neg M e N k':=by
 obtain⟨K,hK,hb⟩:=h.bd
 exact⟨h.s3,h.lo,h.hi,h.val,h.none,K,hK,Nat.le_trans hb (Nat.mul_le_mul_right _ hk)⟩
theorem DV.le {s:Nat} {neg:Bool} {M:Nat} {e N:Int} {k:Nat} (h:DV s neg M e N k):M≤N.natAbs:=by
 rw [← h.val,Int.natAbs_mul,bu,Int.natAbs_natCast]
 exact Nat.le_mul_of_pos_right _ (Nat.two_pow_pos _)
def oQ (k:Nat):Prop:=∃ j,j=150∧k≤2^j
theorem zg {k:Nat} (h:k≤1000):oQ k:=⟨150,rfl,Nat.le_trans h (by decide)⟩
theorem DV.nd {s:Nat} {neg:Bool} {M:Nat} {e N:Int} {k:Nat} (h:DV s neg M e N k) (hk:oQ k):nd M≤1000∧nd M≤137:=by
 obtain⟨K,hK,hb⟩:=h.bd
 obtain⟨j,hj,hk⟩:=hk
 have h1:M<2^(K+j+1):=by
  have h0:=h.le
  have h2:k*2^K≤2^j*2^K:=Nat.mul_le_mul_right _ hk
  rw [← Nat.pow_add] at h2
  rw [Nat.pow_succ,Nat.add_comm K j]
  have h3:=Nat.two_pow_pos (j+K)
  generalize 2^(j+K)=P at *
  omega
 obtain⟨c,hc⟩:∃ c:Nat,c=137:=⟨_,rfl⟩
 have:=bT (N:=M) (k:=c) (Nat.lt_of_lt_of_le h1 (Nat.pow_le_pow_right (by decide) (by omega)))
 omega

structure PL (M X:Nat) (nm nx:Bool) (e ex E:Int) (n m:Nat) (S T:Int) (k:Nat):Prop where
 hn:M≠0→e - E=(n:Int)
 hm:X≠0→ex - E=(m:Int)
 hn1:n≤5000
 hm1:m≤5000
 lo: -2148≤E
 hi:E≤2000
 hk:E+2148=(k:Int)
 had:nd (M*2^n)≤10000000
 hbd:nd (X*2^m)≤10000000
 val:S*((2^k:Nat):Int)=T
theorem ur {M n:Nat} (h:nd M≤1000) (hn:n≤5000):nd (M*2^n)≤10000000:=by
 have h1:M*2^n<2^(32*nd M)*2^n:=Nat.mul_lt_mul_of_pos_right (cM M) (Nat.two_pow_pos _)
 rw [← Nat.pow_add] at h1
 have:=bT (N:=M*2^n) (k:=nd M+n / 32+1) (Nat.lt_of_lt_of_le h1 (Nat.pow_le_pow_right (by decide) (by omega)))
 omega
theorem pW {M n k:Nat} {neg:Bool} {e:Int} (hk:M≠0→n+k=(e+2148).toNat):sg neg (M*2^n)*((2^k:Nat):Int)=sg neg M*((2^(e+2148).toNat:Nat):Int):=by
 rw [← gg,← gg,Nat.mul_assoc,← Nat.pow_add]
 by_cases h0:M=0
 ·rw [h0,Nat.zero_mul,Nat.zero_mul]
 ·rw [hk h0]
theorem IM {M X:Nat} {nm nx:Bool} {e ex E:Int} (h1: -2148≤e) (h2:e≤2000) (h3: -2148≤ex) (h4:ex≤2000) (hM:nd M≤1000) (hX:nd X≤1000) (hE:gG M e X ex=E) :
  ∃ n m k,PL M X nm nx e ex E n m (sg nm (M*2^n)+sg nx (X*2^m)) (sg nm M*((2^(e+2148).toNat:Nat):Int)+sg nx X*((2^(ex+2148).toNat:Nat):Int)) k:=by
 have hEr: -2148≤E∧E≤2000∧(M≠0→E≤e)∧(X≠0→E≤ex):=by
  rw [← hE];unfold gG
  by_cases a:M=0
  ·rw [if_pos a];refine⟨h3,h4,fun h=>absurd a h,fun _=>Int.le_refl _⟩
  ·rw [if_neg a]
   by_cases b:X=0
   ·rw [if_pos b];exact⟨h1,h2,fun _=>Int.le_refl _,fun h=>absurd b h⟩
   ·rw [if_neg b];refine⟨by omega,by omega,fun _=>by omega,fun _=>by omega⟩
 obtain⟨e1,e2,e3,e4⟩:=hEr
 refine⟨(e - E).toNat,(ex - E).toNat,(E+2148).toNat,fun h=>by have:=e3 h;omega,fun h=>by have:=e4 h;omega,by omega,by omega,e1,e2,by omega,ur hM (by omega),ur hX (by omega),?_⟩
 rw [Int.add_mul,pW (e:=e) (fun h=>by have:=e3 h;omega),pW (e:=ex) (fun h=>by have:=e4 h;omega)]
theorem zh {s M X N' n m k kk kk':Nat} {nm nx neg':Bool} {e ex E E' T:Int} (h:PL M X nm nx e ex E n m (sg nm (M*2^n)+sg nx (X*2^m)) T k) (hs:sg neg' N'=sg nm (M*2^n)+sg nx (X*2^m)) (hE:E'=E∨(E'=0∧N'=0)) (hs0:s=0) (hb:∃ K,K=4200∧T.natAbs≤kk*2^K) (hkk:kk≤kk'):DV s neg' N' E' T kk':=by
 obtain⟨K,hK,hb⟩:=hb
 have hv:=h.val
 rw [← hs] at hv
 have hlo:=h.lo
 have hhi:=h.hi
 have hk:=h.hk
 refine⟨by omega,by omega,by omega,?_,fun c=>absurd hs0 c,K,hK,Nat.le_trans hb (Nat.mul_le_mul_right _ hkk)⟩
 rcases hE with e1 | ⟨e1,e2⟩
 ·rw [e1,show (E+2148).toNat=k by omega];exact hv
 ·rw [e2,aL,Int.zero_mul] at hv ⊢;exact hv

theorem ns {p:Nat} {neg:Bool} {N:Nat} {e:Int} (h:OfR p neg N e) (h64:p<18446744073709551616) (hn:af p):az (p:Int)*((2^(aM (p:Int)+2148).toNat:Nat):Int)=sg neg N*((2^(e+2148).toNat:Nat):Int)∧aw (p:Int)=true∧(N≠0→az (p:Int)=sg neg N∧aM (p:Int)=e)∧(N=0→az (p:Int)=0):=by
 have hsz:=eN p
 have hn':=hn
 unfold af at hn'
 have hok:aw (p:Int)=true:=by unfold aw;rw [hsz];simp;omega
 have key:(N≠0→az (p:Int)=sg neg N∧aM (p:Int)=e)∧(N=0→az (p:Int)=0):=by
  refine⟨fun h0=>?_,fun h0=>?_⟩
  ·obtain⟨m1,m2⟩:=h.mag h0
   have hr0:p % 9223372036854775808≠0:=by
    intro e0;rw [e0] at m1;exact h0 (by rw [m1];decide)
   have g1:fa ((p % 9223372036854775808:Nat):Int)=(mg (p % 9223372036854775808):Int):=by
    generalize p % 9223372036854775808=r at *
    unfold fa mg
    by_cases c:r<4503599627370496
    ·rw [if_pos c,if_pos (by omega)]
    ·rw [if_neg c,if_neg (by omega)];omega
   have g2:ja ((p % 9223372036854775808:Nat):Int)= -1074+(pl (p % 9223372036854775808):Int):=by
    generalize p % 9223372036854775808=r at *
    unfold ja pl
    by_cases c:r<4503599627370496
    ·rw [if_pos (by omega)];omega
    ·rw [if_neg (by omega)];omega
   constructor
   ·unfold az
    rw [hok,if_pos rfl,hsz,g1,← m1,eM h64,← h.sgn h0]
    rfl
   ·unfold aM
    rw [hok,hsz,g2,← m2,show decide (((p % 9223372036854775808:Nat):Int)≠0)=true by simpa using fun h=>hr0 (by omega)]
    rfl
  ·have hz:p % 9223372036854775808=0:=by
    have:=h.val
    rw [h0,Nat.zero_mul] at this
    have e9:=dT (r:=p % 9223372036854775808) (s:=0)
    rw [bD] at e9
    exact e9.1 this.symm
   unfold az
   rw [hok,if_pos rfl,hsz,hz,show fa ((0:Nat):Int)=0 from rfl]
   split<;>rfl
 refine⟨?_,hok,key⟩
 by_cases h0:N=0
 ·rw [key.2 h0,h0,aL,Int.zero_mul,Int.zero_mul]
 ·rw [(key.1 h0).1,(key.1 h0).2]
theorem He {x:Nat} {nx:Bool} {X:Nat} {ex:Int} (h:OfR x nx X ex) (h64:x<18446744073709551616) (hn:af x):sg nx X*((2^(ex+2148).toNat:Nat):Int)=A.ls (x:Int):=by
 rw [← (ns h h64 hn).1]
 unfold A.ls
 rw [Int.natCast_pow];rfl
theorem Eb {x:Nat} {nx:Bool} {X:Nat} {ex:Int} (h:OfR x nx X ex):∃ K,K=4200∧(sg nx X*((2^(ex+2148).toNat:Nat):Int)).natAbs≤1*2^K:=by
 refine⟨4200,rfl,?_⟩
 obtain⟨K,hK⟩:∃ K:Nat,K=4200:=⟨_,rfl⟩
 rw [← hK]
 rw [Int.natAbs_mul,bu,Int.natAbs_natCast,Nat.one_mul]
 have h1:=h.lt
 have h2:=h.hi
 have h3:X*2^(ex+2148).toNat≤2^53*2^(ex+2148).toNat:=Nat.mul_le_mul_right _ (by omega)
 rw [← Nat.pow_add] at h3
 exact Nat.le_trans h3 (Nat.pow_le_pow_right (by decide) (by omega))
theorem Ec {A B:Int} {k:Nat} (hA:∃ K,K=4200∧A.natAbs≤k*2^K) (hB:∃ K,K=4200∧B.natAbs≤1*2^K):∃ K,K=4200∧(A+B).natAbs≤(k+1)*2^K:=by
 obtain⟨K,hK,a⟩:=hA
 obtain⟨K',hK',b⟩:=hB
 have:K'=K:=by omega
 subst this
 refine⟨K',hK,?_⟩
 rw [Nat.add_mul]
 generalize k*2^K'=P at *
 generalize 1*2^K'=Q at *
 omega
end Go.Proofs.YtjjlnmihkadlmaaGreat
namespace Go.Proofs.YtjjlnmihkadlmaaGreat
open Go.RowKit

theorem eR {w1 w:World} {s:Int} {neg:Bool} {v:Value} {e:Int} (h:Cells8 w1 w s neg v e):Cells8 w1.drew w s neg v e:=⟨h.c0,h.c1,h.c2,h.c3,h.d0,h.d1,h.d2,h.d3,h.f0,h.f1,h.f2,h.f3⟩
theorem cK {A B:Nat} {v:Value} (h:From B v) (hle:A≤B):From A v:=fun a l c e=>Nat.le_trans hle (h a l c e)
def cA (w:World) (v:Value) (M:Nat) (a:A.St) (k:Nat) (r:Ending) (w':World):Prop:=
 ∃ neg' v' M' e',r=.returned (AV (a.s:Int) neg' v' e')∧DN w' v' M'∧(v'=v∧M'=M∨From w.heap.size v')∧DV a.s neg' M' e' a.N k∧Below w.heap.size w w'
theorem lu {w w2:World} {v:Value} {M:Nat} {a:A.St} {k:Nat} {s:Int} (hs:(a.s:Int)=s) (h3:a.s≤3) (hN:a.N=0) (hb:Below w.heap.size w w2) :
  cA w v M a k (.returned (AV s false (.slice none 0 0) 0)) w2:=by
 refine⟨false,.slice none 0 0,0,0,by rw [hs],Or.inl ⟨rfl,_,_,rfl⟩,Or.inr (gP _),by rw [hN];exact DV.zero h3 k,hb⟩
theorem AW (s:Nat) (N:Int) (hs:s≤3):A.St.merge ⟨s,N⟩ ⟨3,0⟩=⟨3,0⟩:=by
 unfold A.St.merge A.mt
 rcases (show s=0∨s=1∨s=2∨s=3 by omega) with rfl | rfl | rfl | rfl<;>rfl
theorem gp {s:Nat} {N M:Int}:A.St.merge ⟨s,N⟩ ⟨0,M⟩=⟨s,if s=0 then N+M else 0⟩:=by
 unfold A.St.merge
 have e:A.mt s 0=s:=by simp [A.mt]
 simp only [e]
theorem Ed {u:Int} (h:ag u=true):A.cX u=⟨3,0⟩:=by
 have h1:aw u=false:=by
  unfold aw;unfold ag at h
  rw [decide_eq_true_eq] at h
  rw [decide_eq_false_iff_not];omega
 unfold A.cX A.endN
 rw [h1,h];rfl
theorem Ee {u:Int} (h:aP u=true):A.cX u=⟨if sgB u then 2 else 1,0⟩:=by
 have h2:szI u=9218868437227405312:=by unfold aP at h;simpa using h
 have h1:aw u=false:=by unfold aw;rw [h2];rfl
 have h3:ag u=false:=by unfold ag;rw [h2];rfl
 unfold A.cX A.endN
 rw [h1,h3];rfl

set_option maxHeartbeats 1600000 in
theorem Ef (s:Nat) (neg:Bool) (v:Value) (M:Nat) (e:Int) (N:Int) (k:Nat) (u:Int) (w:World) (hs:s≤3) (h:U64 u) (hn:ag u=true) :
  Calls Tryz.prog 50 #[AV (s:Int) neg v e,.int .u64 u] w (cA w v M (A.St.merge ⟨s,N⟩ (A.cX u)) k):=by
 have HN:=aa (aj u · h)
 rw [hn] at HN
 obtain⟨tg,htg⟩:∃ tg,A.St.merge ⟨s,N⟩ (A.cX u)=tg:=⟨_,rfl⟩
 have HT:Hid (tg=⟨3,0⟩):=by show _=_;rw [← htg,Ed hn,AW s N hs]
 rw [htg]
 have H8:=aa (dl w (s:Int) neg v e)
 have HB:=aa (cO w (s:Int) neg v e)
 obtain⟨c0,c1,c2,c3,d0,d1,d2,d3,f0,f1,f2,f3⟩:=H8.out
 clear h hn htg
 go_enter Tryz.func50,Tryz.ntmps50
 go_wp2_with fail
 refine (aA (HN.out _)).mono ?_
 rintro x w' ⟨rfl,rfl⟩
 go_wp2_with fail
 refine bodyPost_ret (v:=.agg #[.int .i64 3,.bool false,.slice none 0 0,.int .i64 0]) (by simp [results,Tryz.results50,go_sem]) rfl ?_
 exact lu (v:=v) (M:=M) (a:=tg) (k:=k) (s:=3) (by rw [HT.out];rfl) (by rw [HT.out];decide) (by rw [HT.out]) (((Below.refl _ _).alloc (Nat.le_refl _) _).trans (((Below.refl _ _).alloc (Nat.le_refl _) _).mono (by simp)))

set_option maxHeartbeats 1600000 in
theorem Eg (s:Nat) (neg:Bool) (v:Value) (M:Nat) (e:Int) (N:Int) (k:Nat) (u:Int) (w:World) (hs:s≤3) (h:U64 u) (hn:ag u=false) (hi:aP u=true) :
  Calls Tryz.prog 50 #[AV (s:Int) neg v e,.int .u64 u] w (cA w v M (A.St.merge ⟨s,N⟩ (A.cX u)) k):=by
 have HN:=aa (aj u · h)
 have HI:=aa (ar u · h)
 rw [hn] at HN
 rw [hi] at HI
 obtain⟨b,hb⟩:∃ b,sgB u=b:=⟨_,rfl⟩
 have HNg:Hid (∀ w,Calls Tryz.prog 87 #[.int .u64 u] w fun e w'=>e=.returned (.bool b)∧w=w'):=fun w=>by
  have:=bN u w
  rw [hb] at this
  exact aA this
 obtain⟨tg,htg⟩:∃ tg,A.St.merge ⟨s,N⟩ (A.cX u)=tg:=⟨_,rfl⟩
 obtain⟨m,hm⟩:∃ m:Nat,A.mt s (if b then 2 else 1)=m:=⟨_,rfl⟩
 have hm3:m≤3:=by rw [← hm];exact A.IJ hs (by split<;>omega)
 have hm0:m≠0:=by
  rw [← hm,Jm s _ hs (by cases b<;>simp)]
  cases b<;>simp<;>split<;>omega
 have HT:Hid (tg=⟨m,0⟩):=by
  show _=_
  rw [← htg,Ee hi,hb]
  unfold A.St.merge
  dsimp only
  rw [hm,if_neg hm0]
 rw [htg]
 have HInf:=aa fun w=>Hd s neg b v e w hs
 rw [hm] at HInf
 obtain⟨mi,hmi⟩:∃ mi:Int,(m:Int)=mi:=⟨_,rfl⟩
 rw [hmi] at HInf
 have HE:=aa fun (w2:World) (hb:Below w.heap.size w w2)=>lu (v:=v) (M:=M) (a:=tg) (k:=k) (s:=mi) (by rw [HT.out];exact hmi) (by rw [HT.out];exact hm3) (by rw [HT.out]) hb
 have H8:=aa (dl w (s:Int) neg v e)
 have HB:=aa (cO w (s:Int) neg v e)
 have HZ:=aa (gn w (s:Int) neg v e)
 obtain⟨c0,c1,c2,c3,d0,d1,d2,d3,f0,f1,f2,f3⟩:=H8.out
 clear h hn hi htg hb hm hm0 hm3 hmi HT
 go_enter Tryz.func50,Tryz.ntmps50
 go_wp2_with fail
 refine (aA (HN.out _)).mono ?_
 rintro x w' ⟨rfl,rfl⟩
 go_wp2_with fail
 refine (aA (HI.out _)).mono ?_
 rintro x w' ⟨rfl,rfl⟩
 go_wp2_with fail
 go_region_with (first | ((go_at_call 87;refine (HNg.out _).mono ?_;rintro x w' ⟨rfl,rfl⟩)) | ((go_at_call 86;refine (HInf.out _).mono ?_;rintro x w4 ⟨rfl,hb4⟩;have HB4:=aa (HB.out.drew.trans (hb4.mono (show w.heap.size≤(boxA2 w (s:Int) neg v e).heap.size by rw [HZ.out];omega)));have G8:=aa (Cells8.below (eR H8.out) hb4 (show w.heap.size+1<(boxA2 w (s:Int) neg v e).heap.size by rw [HZ.out];omega));have k0:=G8.out.d0;have k1:=G8.out.d1;have k2:=G8.out.d2;have k3:=G8.out.d3;have l0:=G8.out.f0;have l1:=G8.out.f1;have l2:=G8.out.f2;have l3:=G8.out.f3;clear hb4)))
 all_goals
  go_wp2_with fail
  refine bodyPost_ret (v:=.agg #[.int .i64 mi,.bool false,.slice none 0 0,.int .i64 0]) (by simp [results,Tryz.results50,go_sem,k0,k1,k2,k3]) rfl ?_
  exact HE.out _ (dm HB4.out (by omega))

set_option maxHeartbeats 1600000 in
theorem AX (s:Nat) (neg:Bool) (v:Value) (M:Nat) (e:Int) (N:Int) (k x:Nat) (u:Int) (w:World) (hd:DN w v M) (hv:DV s neg M e N k) (hs0:s≠0) (h:U64 u) (hn:ag u=false) (hi:aP u=false) (hu:u=(x:Int)) :
  Calls Tryz.prog 50 #[AV (s:Int) neg v e,.int .u64 u] w (cA w v M (A.St.merge ⟨s,N⟩ (A.cX u)) (k+1)):=by
 have HN:=aa (aj u · h)
 have HI:=aa (ar u · h)
 rw [hn] at HN
 rw [hi] at HI
 obtain⟨tg,htg⟩:∃ tg,A.St.merge ⟨s,N⟩ (A.cX u)=tg:=⟨_,rfl⟩
 have HT:Hid (tg=⟨s,N⟩):=by
  show _=_
  have h1:aw u=true:=by
   have:=ek hu hn hi
   unfold af at this
   unfold aw;rw [hu,eN];simp;omega
  have h2:A.cX u=⟨0,A.ls u⟩:=by unfold A.cX;rw [h1];rfl
  rw [← htg,h2,gp,if_neg hs0,hv.none hs0]
 rw [htg]
 obtain⟨p,l,c,rfl⟩:=hd.shape
 have HD:=aa hd
 have HV:=aa (hv.mono (show k≤k+1 by omega))
 have hne:(((s:Int) !=0))=true:=by simp;omega
 have hne2:((s:Int)==0)=false:=by simp;omega
 have H8:=aa (dl w (s:Int) neg (.slice p l c) e)
 have HB:=aa (cO w (s:Int) neg (.slice p l c) e)
 obtain⟨c0,c1,c2,c3,d0,d1,d2,d3,f0,f1,f2,f3⟩:=H8.out
 clear h hn hi htg hd hv hu hs0
 go_enter Tryz.func50,Tryz.ntmps50
 go_wp2_with fail
 refine (aA (HN.out _)).mono ?_
 rintro x w' ⟨rfl,rfl⟩
 go_wp2_with fail
 refine (aA (HI.out _)).mono ?_
 rintro x w' ⟨rfl,rfl⟩
 go_wp2_with fail
 refine bodyPost_ret (v:=.agg #[.int .i64 (s:Int),.bool neg,.slice p l c,.int .i64 e]) (by simp [results,Tryz.results50,go_sem]) rfl ?_
 have hbl:Below w.heap.size w ((w.alloc (.cells #[.int .i64 (s:Int),.bool neg,.slice p l c,.int .i64 e] 34)).alloc (.cells #[.int .i64 (s:Int),.bool neg,.slice p l c,.int .i64 e] 34)):=((Below.refl _ _).alloc (Nat.le_refl _) _).trans (((Below.refl _ _).alloc (Nat.le_refl _) _).mono (by simp))
 rw [HT.out]
 exact⟨neg,.slice p l c,M,e,rfl,HD.out.below hbl,Or.inl ⟨rfl,rfl⟩,HV.out,hbl⟩

set_option maxHeartbeats 1600000 in
theorem Eh (neg:Bool) (v:Value) (M:Nat) (e:Int) (N:Int) (k x:Nat) (u:Int) (w:World) (hd:DN w v M) (hv:DV 0 neg M e N k) (hk:oQ k) (h:U64 u) (hn:ag u=false) (hi:aP u=false) (hu:Hid (u=(x:Int))) :
  Calls Tryz.prog 50 #[AV 0 neg v e,.int .u64 u] w (cA w v M (A.St.merge ⟨0,N⟩ (A.cX u)) (k+1)):=by
 have HN:=aa (aj u · h)
 have HI:=aa (ar u · h)
 rw [hn] at HN
 rw [hi] at HI
 have hxn:=ek hu.out hn hi
 have hx64:x<18446744073709551616:=by have:=h.2;rw [hu.out] at this;omega
 have HO:=aa fun w=>dE x u w hu h hxn
 obtain⟨tg,htg⟩:∃ tg,A.St.merge ⟨0,N⟩ (A.cX u)=tg:=⟨_,rfl⟩
 have HT:Hid (tg=⟨0,N+A.ls (x:Int)⟩):=by
  show _=_
  have h1:aw u=true:=by
   unfold af at hxn
   unfold aw;rw [hu.out,eN];simp;omega
  have h2:A.cX u=⟨0,A.ls u⟩:=by unfold A.cX;rw [h1];rfl
  rw [← htg,h2,gp,if_pos rfl,hu.out]
 rw [htg]
 obtain⟨p,l,c,rfl⟩:=hd.shape
 have HD:=aa fun w' (hb:Below w.heap.size w w')=>hd.below hb
 have HV:=aa hv
 have H8:=aa (dl w 0 neg (.slice p l c) e)
 have HB:=aa (cO w 0 neg (.slice p l c) e)
 have HZ:=aa (gn w 0 neg (.slice p l c) e)
 have HX:=aa (And.intro hxn hx64)
 obtain⟨c0,c1,c2,c3,d0,d1,d2,d3,f0,f1,f2,f3⟩:=H8.out
 clear h hn hi htg hd hv hxn hx64
 go_enter Tryz.func50,Tryz.ntmps50
 go_wp2_with fail
 refine (aA (HN.out _)).mono ?_
 rintro x w' ⟨rfl,rfl⟩
 go_wp2_with fail
 refine (aA (HI.out _)).mono ?_
 rintro x w' ⟨rfl,rfl⟩
 go_wp2_with fail
 go_region_with (first | ((go_at_call 89;refine (HO.out _).mono ?_;rintro r w3 ⟨nx,vx,X,ex,rfl,hdx,hX,hb3⟩;obtain⟨px,lx,cx,rfl⟩:=hdx.shape;have HB3:=aa (HB.out.drew.trans (hb3.mono (show w.heap.size≤(boxA2 w 0 neg (.slice p l c) e).heap.size by rw [HZ.out];omega)));have G8:=aa (Cells8.below (eR H8.out) hb3 (show w.heap.size+1<(boxA2 w 0 neg (.slice p l c) e).heap.size by rw [HZ.out];omega));have hz3:w.heap.size+2≤w3.heap.size:=(by have h9:=hb3.size;have h8:(boxA2 w 0 neg (.slice p l c) e).heap.size≤w3.heap.size:=h9;rw [HZ.out] at h8;exact h8);have HDx:=aa hdx;have HOX:=aa hX;have g1:=G8.out.c1;have g2:=G8.out.c2;have g3:=G8.out.c3;clear hb3 hdx hX)) | ((go_at_call 88;obtain⟨E,hE⟩:∃ E,gG M e X ex=E:=⟨_,rfl⟩;obtain⟨n,m,kk,hPL⟩:=IM (nm:=neg) (nx:=nx) HV.out.lo HV.out.hi (show -2148≤ex by have:=HOX.out.lo;omega) (show ex≤2000 by have:=HOX.out.hi;omega) (HV.out.nd hk).1 (show nd X≤1000 by have:=cU HOX.out.lt;omega) hE;refine (plus_any neg nx (.slice p l c) (.slice px lx cx) e ex E M X n m w3 (HD.out _ HB3.out) HDx.out hE hPL.hn hPL.hm (by have:=hPL.hn1;omega) (by have:=hPL.hm1;omega) (by have:=HV.out.nd hk;omega) (by have:=cU HOX.out.lt;omega) hPL.had hPL.hbd).mono ?_;rintro r w4 ⟨neg',v',N',E',rfl,hd4,hf4,hs4,hE4,hb4⟩;obtain⟨p4,l4,c4,rfl⟩:=hd4.shape;have HDV:Hid (DV 0 neg' N' E' (N+A.ls (x:Int)) (k+1)):=(by have hT:=zh (s:=0) (kk:=k+1) (kk':=k+1) hPL hs4 hE4 rfl (by rw [HV.out.val];exact Ec HV.out.bd (Eb HOX.out)) (Nat.le_refl _);rw [HV.out.val,He HOX.out HX.out.2 HX.out.1] at hT;exact hT);have HB4:=aa (HB3.out.trans (hb4.mono HB3.out.size));have K8:=aa (G8.out.below hb4 (show w.heap.size+1<w3.heap.size by omega));have HD4:=aa hd4;have HF4:=aa (cK hf4 hz3);have k0:=K8.out.d0;have k1:=K8.out.d1;have k2:=K8.out.d2;have k3:=K8.out.d3;have l0:=K8.out.f0;have l1:=K8.out.f1;have l2:=K8.out.f2;have l3:=K8.out.f3;clear hd4 hf4 hs4 hE4 hb4 hPL hE)))
 all_goals
  go_wp2_with fail
  refine bodyPost_ret (v:=.agg #[.int .i64 0,.bool neg',.slice p4 l4 c4,.int .i64 E']) (by simp [results,Tryz.results50,go_sem,k0,k1,k2,k3]) rfl ?_
  rw [HT.out]
  exact⟨neg',_,N',E',rfl,lW HD4.out HF4.out (by omega),Or.inr (cK HF4.out (by omega)),HDV.out,dm HB4.out (by omega)⟩

theorem Lj (s:Nat) (neg:Bool) (v:Value) (M:Nat) (e:Int) (N:Int) (k x:Nat) (u:Int) (w:World) (hd:DN w v M) (hv:DV s neg M e N k) (hk:oQ k) (h:U64 u) (hu:Hid (u=(x:Int))) :
  Calls Tryz.prog 50 #[AV (s:Int) neg v e,.int .u64 u] w (cA w v M (A.St.merge ⟨s,N⟩ (A.cX u)) (k+1)):=by
 cases hn:ag u with
 | true=>exact Ef s neg v M e N (k+1) u w hv.s3 h hn
 | false=>
  cases hi:aP u with
  | true=>exact Eg s neg v M e N (k+1) u w hv.s3 h hn hi
  | false=>
   by_cases h0:s=0
   ·subst h0;exact Eh neg v M e N k x u w hd hv hk h hn hi hu
   ·exact AX s neg v M e N k x u w hd hv h0 h hn hi hu.out
end Go.Proofs.YtjjlnmihkadlmaaGreat
namespace Go.Proofs.YtjjlnmihkadlmaaGreat.A
open Go.RowKit

theorem Hf {o:Option Nat} {r:Nat} (h:Ag o r):cX (r:Int)=cX (cn o:Int):=by
 cases o with
 | some q=>rw [dy h,aq]
 | none=>
  have f:∀ {b:Nat},ag (b:Int)=true→cX (b:Int)=⟨3,0⟩:=fun {b} hb=>by
   have h1:aw (b:Int)=false:=by
    unfold aw;unfold ag at hb
    rw [decide_eq_true_eq] at hb
    rw [decide_eq_false_iff_not];omega
   unfold cX endN
   rw [h1,hb];rfl
  rw [f (fY h).1,jK,f mU]
def bp (x y:Nat):St:=if aw (x:Int)&&aw (y:Int) then fC (x:Int) (y:Int) else cX (cn (floatBits .mul .f64 x y):Int)

set_option maxHeartbeats 800000 in
theorem Ei (B b:Nat) (v:Value) (L:Nat) (a:St) (x y:Nat) (w:World) (h:AccAt w B b v L a) (hB:B≤w.heap.size) (hx:U64 (x:Int)) (hy:U64 (y:Int)) (hno:(aw (x:Int)&&aw (y:Int))=false) (hL:L≤40000) :
  Calls Tryz.prog 94 #[.pointer (some ⟨b,0,none⟩),.float .f64 x,.float .f64 y] w fun r w'=>r=.returned (.tuple #[])∧∃ q v',Did (w.drewN q) w' B b v (max L 70+1) (a.merge (bp x y)) v':=by
 have HS:=hideS (ef x x w rfl hx)
 have HS':=hideS (ef y y w rfl hy)
 obtain⟨r,⟨q,r1⟩,g⟩:=dq .mul (by simp) 54 x y w
 have hr64:r<18446744073709551616:=by
  cases hf:floatBits .mul .f64 x y with
  | none=>rw [hf] at g;exact (fY g).2
  | some z=>rw [hf] at g;rw [dy g];exact gW (by simp) hf
 have HAd:=hideS (Hc B b v L a r r (w.drewN q) (h.drewN q) hB rfl (ah hr64) hL)
 have HR:Hid (a.merge (cX (r:Int))=a.merge (bp x y)):=by
  show _=_
  unfold bp
  rw [hno,if_neg (by decide),Hf g]
 rw [HR.out] at HAd
 clear h hx hy g hr64 HR
 cases h1:aw (x:Int)
 ·rw [h1] at HS
  clear hno h1
  go_enter Tryz.func94,Tryz.ntmps94
  go_wp2_with fail
  refine (turned HS.out).mono ?_
  rintro e w' ⟨rfl,rfl⟩
  go_wp2_with fail
  refine (turned HS'.out).mono ?_
  rintro e w' ⟨rfl,rfl⟩
  go_wp2_with fail
  refine HAd.out.mono ?_
  rintro e w1 ⟨rfl,v1,hd⟩
  have HD:=hideS hd
  clear hd
  go_wp2_with fail
  first | go_end0 | refine bodyPost_ret (results_none rfl _ _ _) rfl ?_
  exact⟨rfl,q,v1,HD.out⟩
 ·rw [h1,Bool.true_and] at hno
  rw [h1] at HS
  rw [hno] at HS'
  clear hno h1
  go_enter Tryz.func94,Tryz.ntmps94
  go_wp2_with fail
  refine (turned HS.out).mono ?_
  rintro e w' ⟨rfl,rfl⟩
  go_wp2_with fail
  refine (turned HS'.out).mono ?_
  rintro e w' ⟨rfl,rfl⟩
  go_wp2_with fail
  refine HAd.out.mono ?_
  rintro e w1 ⟨rfl,v1,hd⟩
  have HD:=hideS hd
  clear hd
  go_wp2_with fail
  first | go_end0 | refine bodyPost_ret (results_none rfl _ _ _) rfl ?_
  exact⟨rfl,q,v1,HD.out⟩

theorem fE (B b:Nat) (v:Value) (L:Nat) (a:St) (x y:Nat) (w:World) (h:AccAt w B b v L a) (hB:B≤w.heap.size) (hx:U64 (x:Int)) (hy:U64 (y:Int)) (hL:L≤40000) :
  Calls Tryz.prog 94 #[.pointer (some ⟨b,0,none⟩),.float .f64 x,.float .f64 y] w fun r w'=>r=.returned (.tuple #[])∧∃ q v',Did (w.drewN q) w' B b v (max L 70+1) (a.merge (bp x y)) v':=by
 cases hno:(aw (x:Int)&&aw (y:Int)) with
 | false=>exact Ei B b v L a x y w h hB hx hy hno hL
 | true=>
  rw [Bool.and_eq_true] at hno
  have e:bp x y=fC (x:Int) (y:Int):=by unfold bp;rw [hno.1,hno.2];rfl
  rw [e]
  exact (uk B b v L a x y x y w h hB rfl hx rfl hy hno.1 hno.2 hL).mono fun _ _ ⟨a1,v',hd⟩=>⟨a1,0,v',hd⟩

end Go.Proofs.YtjjlnmihkadlmaaGreat.A
namespace Go.Proofs.YtjjlnmihkadlmaaGreat
open Go.RowKit

theorem rP {w w3 w4:World} {v:Value} {M k:Nat} {a:A.St} {s:Int} {neg:Bool} {e:Int} {r:Ending} (hd:DN w v M) (hb3:Below w.heap.size w w3) (hz3:w.heap.size+2≤w3.heap.size) (h:cA w3 v M a k r w4) (h8:Cells8 w3 w s neg v e) :
  ∃ neg' p4 l4 c4 e4,r=.returned (AV (a.s:Int) neg' (.slice p4 l4 c4) e4)∧Cells8 w4 w s neg v e∧cA w v M a k (.returned (AV (a.s:Int) neg' (.slice p4 l4 c4) e4)) (put4 w4 (w.heap.size+1) (a.s:Int) neg' (.slice p4 l4 c4) e4):=by
 obtain⟨neg',v',M',e',rfl,hd4,hv4,hdv,hb4⟩:=h
 obtain⟨p4,l4,c4,rfl⟩:=hd4.shape
 have hbw:Below w.heap.size w w4:=hb3.trans (hb4.mono hb3.size)
 refine⟨neg',p4,l4,c4,e',rfl,h8.below hb4 (by omega),neg',_,M',e',rfl,?_,?_,hdv,dm hbw (by omega)⟩
 ·rcases hv4 with⟨hv4,hM⟩| hv4
  ·rw [hv4,hM]
   exact hd.below (dm hbw (by omega))
  ·exact lW hd4 (cK hv4 hz3) (by omega)
 ·rcases hv4 with hv4 | hv4
  ·exact Or.inl hv4
  ·exact Or.inr (cK hv4 (by omega))

set_option maxHeartbeats 1600000 in
theorem AY (s:Nat) (neg:Bool) (v:Value) (M:Nat) (e:Int) (N:Int) (k x y:Nat) (u t:Int) (w:World) (hd:DN w v M) (hv:DV s neg M e N k) (hk:oQ k) (h:U64 u) (h':U64 t) (hu:Hid (u=(x:Int))) (ht:Hid (t=(y:Int))) (hno:(aw u&&aw t)=false) :
  Calls Tryz.prog 99 #[AV (s:Int) neg v e,.int .u64 u,.int .u64 t] w (cA w v M (A.St.merge ⟨s,N⟩ (A.bp x y)) (k+1)):=by
 have HN1:=aa (bS u · h)
 have HN2:=aa (bS t · h')
 obtain⟨z,hz⟩:∃ z:Int,z=(cn (floatBits .mul .f64 x y):Int):=⟨_,rfl⟩
 have HM:Hid (∀ w,Calls Tryz.prog 135 #[.int .u64 u,.int .u64 t] w fun e w'=>e=.returned (.int .u64 z)∧Below w.heap.size w w'):=fun w=>by rw [hz];exact el x y u t w hu ht h h'
 obtain⟨tg,htg⟩:∃ tg,A.St.merge ⟨s,N⟩ (A.bp x y)=tg:=⟨_,rfl⟩
 have hz64:U64 z:=by rw [hz];exact ah (tK (by simp) _ _)
 have htg2:A.St.merge ⟨s,N⟩ (A.cX z)=tg:=by
  rw [← htg];unfold A.bp
  rw [← hu.out,← ht.out,hno,if_neg (by decide),hz]
 have HAd:Hid (∀ w',Below w.heap.size w w'→Calls Tryz.prog 50 #[AV (s:Int) neg v e,.int .u64 z] w' (cA w' v M tg (k+1))):=fun w' hb=>by
  rw [← htg2];exact Lj s neg v M e N k _ z w' (hd.below hb) hv hk hz64 hz
 rw [htg]
 obtain⟨p,l,c,rfl⟩:=hd.shape
 have HD:=aa hd
 have H8:=aa (dl w (s:Int) neg (.slice p l c) e)
 have HB:=aa (cO w (s:Int) neg (.slice p l c) e)
 have HZ:=aa (gn w (s:Int) neg (.slice p l c) e)
 obtain⟨c0,c1,c2,c3,d0,d1,d2,d3,f0,f1,f2,f3⟩:=H8.out
 obtain⟨o1,ho1⟩:∃ o1,aw u=o1:=⟨_,rfl⟩
 obtain⟨o2,ho2⟩:∃ o2,aw t=o2:=⟨_,rfl⟩
 rw [ho1] at HN1
 rw [ho2] at HN2
 rw [ho1,ho2] at hno
 clear h h' hd hz hz64 htg htg2 hu ht ho1 ho2
 cases o1<;>cases o2
 all_goals first | (exact absurd hno (by decide)) | skip
 all_goals
  clear hno
  go_enter Tryz.func99,Tryz.ntmps99
  go_wp2_with (first | (go_at_call_of 65 (Value.int IntKind.u64 u);refine (aA (HN1.out _)).mono ?_;rintro x w' ⟨rfl,rfl⟩) | (go_at_call_of 65 (Value.int IntKind.u64 t);refine (aA (HN2.out _)).mono ?_;rintro x w' ⟨rfl,rfl⟩))
  go_region_with (first | ((go_at_call 135;refine (HM.out _).mono ?_;rintro x w3 ⟨rfl,hb3⟩;have HB3:=aa (HB.out.drew.trans (hb3.mono (show w.heap.size≤(boxA2 w (s:Int) neg (.slice p l c) e).heap.size by rw [HZ.out];omega)));have G8:=aa (Cells8.below (eR H8.out) hb3 (show w.heap.size+1<(boxA2 w (s:Int) neg (.slice p l c) e).heap.size by rw [HZ.out];omega));have hz3:w.heap.size+2≤w3.heap.size:=(by have h9:=hb3.size;have h8:(boxA2 w (s:Int) neg (.slice p l c) e).heap.size≤w3.heap.size:=h9;rw [HZ.out] at h8;exact h8);have g0:=G8.out.c0;have g1:=G8.out.c1;have g2:=G8.out.c2;have g3:=G8.out.c3;clear hb3)) | ((go_at_call 50;refine (HAd.out _ HB3.out).mono ?_;intro r w4 hend;obtain⟨neg',p4,l4,c4,e4,rfl,K8,hE⟩:=rP HD.out HB3.out hz3 hend G8.out;have HE:=aa hE;have k0:=K8.d0;have k1:=K8.d1;have k2:=K8.d2;have k3:=K8.d3;have l0:=K8.f0;have l1:=K8.f1;have l2:=K8.f2;have l3:=K8.f3;clear hend hE K8)))
  all_goals
   go_wp2_with fail
   refine bodyPost_ret (v:=.agg #[.int .i64 (tg.s:Int),.bool neg',.slice p4 l4 c4,.int .i64 e4]) (by simp [results,Tryz.results99,go_sem,k0,k1,k2,k3]) rfl ?_
   exact HE.out

set_option maxHeartbeats 1600000 in
theorem xD (s:Nat) (neg:Bool) (v:Value) (M:Nat) (e:Int) (N:Int) (k x y:Nat) (u t:Int) (w:World) (hd:DN w v M) (hv:DV s neg M e N k) (hs0:s≠0) (h:U64 u) (h':U64 t) (hu:u=(x:Int)) (ht:t=(y:Int)) (ho1:aw u=true) (ho2:aw t=true) :
  Calls Tryz.prog 99 #[AV (s:Int) neg v e,.int .u64 u,.int .u64 t] w (cA w v M (A.St.merge ⟨s,N⟩ (A.bp x y)) (k+1)):=by
 have HN1:=aa (bS u · h)
 have HN2:=aa (bS t · h')
 rw [ho1] at HN1
 rw [ho2] at HN2
 obtain⟨tg,htg⟩:∃ tg,A.St.merge ⟨s,N⟩ (A.bp x y)=tg:=⟨_,rfl⟩
 have HT:Hid (tg=⟨s,N⟩):=by
  show _=_
  rw [← htg];unfold A.bp
  rw [← hu,← ht,ho1,ho2]
  show A.St.merge ⟨s,N⟩ (A.fC u t)=_
  unfold A.fC
  rw [gp,if_neg hs0,hv.none hs0]
 rw [htg]
 obtain⟨p,l,c,rfl⟩:=hd.shape
 have HD:=aa hd
 have HV:=aa (hv.mono (show k≤k+1 by omega))
 have hne:(((s:Int) !=0))=true:=by simp;omega
 have hne2:((s:Int)==0)=false:=by simp;omega
 have H8:=aa (dl w (s:Int) neg (.slice p l c) e)
 obtain⟨c0,c1,c2,c3,d0,d1,d2,d3,f0,f1,f2,f3⟩:=H8.out
 clear h h' htg hd hv hu ht hs0 ho1 ho2
 go_enter Tryz.func99,Tryz.ntmps99
 go_wp2_with (first | (go_at_call_of 65 (Value.int IntKind.u64 u);refine (aA (HN1.out _)).mono ?_;rintro x w' ⟨rfl,rfl⟩) | (go_at_call_of 65 (Value.int IntKind.u64 t);refine (aA (HN2.out _)).mono ?_;rintro x w' ⟨rfl,rfl⟩))
 refine bodyPost_ret (v:=.agg #[.int .i64 (s:Int),.bool neg,.slice p l c,.int .i64 e]) (by simp [results,Tryz.results99,go_sem]) rfl ?_
 have hbl:Below w.heap.size w ((w.alloc (.cells #[.int .i64 (s:Int),.bool neg,.slice p l c,.int .i64 e] 34)).alloc (.cells #[.int .i64 (s:Int),.bool neg,.slice p l c,.int .i64 e] 34)):=((Below.refl _ _).alloc (Nat.le_refl _) _).trans (((Below.refl _ _).alloc (Nat.le_refl _) _).mono (by simp))
 rw [HT.out]
 exact⟨neg,.slice p l c,M,e,rfl,HD.out.below hbl,Or.inl ⟨rfl,rfl⟩,HV.out,hbl⟩
end Go.Proofs.YtjjlnmihkadlmaaGreat
namespace Go.Proofs.YtjjlnmihkadlmaaGreat
open Go.RowKit

def Three (w':World) (B:Nat) (neg:Bool) (v:Value) (e:Int):Prop:=
 w'.cell? ⟨B,1,none⟩=some (.bool neg)∧w'.cell? ⟨B,2,none⟩=some v∧w'.cell? ⟨B,3,none⟩=some (.int .i64 e)
theorem Cells8.three {w1 w:World} {s:Int} {neg:Bool} {v:Value} {e:Int} (h:Cells8 w1 w s neg v e):Three w1 w.heap.size neg v e:=⟨h.c1,h.c2,h.c3⟩
theorem AZ {w:World} {B:Nat} {neg neg':Bool} {v v':Value} {e e' s':Int} (h:Three w B neg v e):Three (put4 w (B+1) s' neg' v' e') B neg v e:=by
 have n0:B+1≠B:=by omega
 have f:∀ (i j:Nat) (w:World) (x:Value),(w.setCell ⟨B+1,i,none⟩ x).cell? ⟨B,j,none⟩=w.cell? ⟨B,j,none⟩:=fun i j w x=>World.cell?_setCell_far w ⟨B+1,i,none⟩ ⟨B,j,none⟩ x n0
 obtain⟨a,b,c⟩:=h
 refine⟨?_,?_,?_⟩
 ·rw [f,f,f,f];exact a
 ·rw [f,f,f,f];exact b
 ·rw [f,f,f,f];exact c
theorem KI {E ex ey:Int} {N:Nat} (h:E=ex+ey∨(E=0∧N=0)) (l1: -1074≤ex) (l2:ex≤971) (l3: -1074≤ey) (l4:ey≤971): -2148≤E∧E≤2000:=by
 rcases h with h | ⟨h,_⟩ <;>omega
theorem Ba {x y X Y:Nat} {nx ny:Bool} {ex ey:Int} (hX:OfR x nx X ex) (hY:OfR y ny Y ey) (hx64:x<18446744073709551616) (hy64:y<18446744073709551616) (hxn:af x) (hyn:af y) {neg N E} (hs:sg neg N=sg nx X*sg ny Y) (hE:E=ex+ey∨(E=0∧N=0)) :
  sg neg N*((2^(E+2148).toNat:Nat):Int)=az (x:Int)*az (y:Int)*2^(aM (x:Int)+aM (y:Int)+2148).toNat∧-2148≤E∧E≤2000∧nd N≤1000∧∃ K,K=4200∧(sg neg N*((2^(E+2148).toNat:Nat):Int)).natAbs≤1*2^K:=by
 obtain⟨_,_,kx1,kx2⟩:=ns hX hx64 hxn
 obtain⟨_,_,ky1,ky2⟩:=ns hY hy64 hyn
 have hN:N=X*Y:=by
  have:=congrArg Int.natAbs hs
  rw [Int.natAbs_mul,bu,bu,bu] at this;exact this
 have l1:=hX.lo
 have l2:=hX.hi
 have l3:=hY.lo
 have l4:=hY.hi
 have hlt:N<9007199254740992*9007199254740992:=by rw [hN];exact Nat.mul_lt_mul'' hX.lt hY.lt
 have hnd:nd N≤1000:=Nat.le_trans (bT (k:=4) (by omega)) (by omega)
 obtain⟨r1,r2⟩:=KI hE l1 l2 l3 l4
 refine⟨?_,r1,r2,hnd,4200,rfl,?_⟩
 ·by_cases h0:N=0
  ·rw [h0,aL,Int.zero_mul]
   have:X=0∨Y=0:=by rw [hN] at h0;exact Nat.mul_eq_zero.1 h0
   rcases this with c | c
   ·rw [kx2 c,Int.zero_mul,Int.zero_mul]
   ·rw [ky2 c,Int.mul_zero,Int.zero_mul]
  ·have hX0:X≠0:=fun c=>h0 (by rw [hN,c,Nat.zero_mul])
   have hY0:Y≠0:=fun c=>h0 (by rw [hN,c,Nat.mul_zero])
   have hEE:E=ex+ey:=by
    rcases hE with h | ⟨_,h⟩
    ·exact h
    ·exact absurd h h0
   rw [hs,hEE,(kx1 hX0).1,(kx1 hX0).2,(ky1 hY0).1,(ky1 hY0).2,Int.natCast_pow];rfl
 ·obtain⟨K,hK⟩:∃ K:Nat,K=4200:=⟨_,rfl⟩
  rw [← hK,Int.natAbs_mul,bu,Int.natAbs_natCast,Nat.one_mul]
  have h3:N*2^(E+2148).toNat≤2^106*2^(E+2148).toNat:=Nat.mul_le_mul_right _ (by omega)
  by_cases h0:N=0
  ·rw [h0,Nat.zero_mul];exact Nat.zero_le _
  ·have hEE:E=ex+ey:=by
    rcases hE with h | ⟨_,h⟩
    ·exact h
    ·exact absurd h h0
   rw [← Nat.pow_add] at h3
   exact Nat.le_trans h3 (Nat.pow_le_pow_right (by decide) (by omega))

set_option maxRecDepth 10000 in
set_option maxHeartbeats 3200000 in
theorem Bb (neg:Bool) (v:Value) (M:Nat) (e:Int) (N:Int) (k x y:Nat) (u t:Int) (w:World) (hd:DN w v M) (hv:DV 0 neg M e N k) (hk:oQ k) (h:U64 u) (h':U64 t) (hu:Hid (u=(x:Int))) (ht:Hid (t=(y:Int))) (ho1:aw u=true) (ho2:aw t=true) :
  Calls Tryz.prog 99 #[AV 0 neg v e,.int .u64 u,.int .u64 t] w (cA w v M (A.St.merge ⟨0,N⟩ (A.bp x y)) (k+1)):=by
 have HN1:=aa (bS u · h)
 have HN2:=aa (bS t · h')
 rw [ho1] at HN1
 rw [ho2] at HN2
 have nb:∀ {z:Nat} {b:Int},b=(z:Int)→aw b=true→af z:=fun {z b} e o=>by
  unfold aw at o;rw [e,eN,decide_eq_true_eq] at o;unfold af;omega
 have hxn:=nb hu.out ho1
 have hyn:=nb ht.out ho2
 have hx64:x<18446744073709551616:=by have:=h.2;rw [hu.out] at this;omega
 have hy64:y<18446744073709551616:=by have:=h'.2;rw [ht.out] at this;omega
 have HO1:=aa fun w=>dE x u w hu h hxn
 have HO2:=aa fun w=>dE y t w ht h' hyn
 obtain⟨tg,htg⟩:∃ tg,A.St.merge ⟨0,N⟩ (A.bp x y)=tg:=⟨_,rfl⟩
 have HT:Hid (tg=⟨0,N+az (x:Int)*az (y:Int)*2^(aM (x:Int)+aM (y:Int)+2148).toNat⟩):=by
  show _=_
  rw [← htg];unfold A.bp
  rw [← hu.out,← ht.out,ho1,ho2]
  show A.St.merge ⟨0,N⟩ (A.fC u t)=_
  unfold A.fC
  rw [gp,if_pos rfl]
 rw [htg]
 obtain⟨p,l,c,rfl⟩:=hd.shape
 have HD:=aa fun w' (hb:Below w.heap.size w w')=>hd.below hb
 have HV:=aa hv
 have H8:=aa (dl w 0 neg (.slice p l c) e)
 have HB:=aa (cO w 0 neg (.slice p l c) e)
 have HZ:=aa (gn w 0 neg (.slice p l c) e)
 have HXY:=aa (And.intro (And.intro hxn hx64) (And.intro hyn hy64))
 obtain⟨c0,c1,c2,c3,d0,d1,d2,d3,f0,f1,f2,f3⟩:=H8.out
 have S0:Hid (Three (boxA2 w 0 neg (.slice p l c) e) w.heap.size neg (.slice p l c) e):=H8.out.three
 clear h h' htg hd hv hxn hx64 hyn hy64 ho1 ho2 nb
 go_enter Tryz.func99,Tryz.ntmps99
 go_wp2_with (first | (go_at_call_of 65 (Value.int IntKind.u64 u);refine (aA (HN1.out _)).mono ?_;rintro x w' ⟨rfl,rfl⟩) | (go_at_call_of 65 (Value.int IntKind.u64 t);refine (aA (HN2.out _)).mono ?_;rintro x w' ⟨rfl,rfl⟩))
 go_region_held3 (fun w'=>w'.cell? ⟨w.heap.size,1,none⟩=some (.bool neg)∧w'.cell? ⟨w.heap.size,2,none⟩=some (.slice p l c)∧w'.cell? ⟨w.heap.size,3,none⟩=some (.int .i64 e)) (first | exact S0.out | exact S3.out | exact S4.out | exact S5.out | exact S6.out | exact AZ S6.out | go_keep) (first | ((go_at_call_of 89 (Value.int IntKind.u64 u);refine (HO1.out _).mono ?_;rintro r w3 ⟨nx,vx,X,ex,rfl,hdx,hX,hb3⟩;obtain⟨px,lx,cx,rfl⟩:=hdx.shape;have HB3:=aa (HB.out.drew.trans (hb3.mono (show w.heap.size≤(boxA2 w 0 neg (.slice p l c) e).heap.size by rw [HZ.out];omega)));have G8:=aa (Cells8.below (eR H8.out) hb3 (show w.heap.size+1<(boxA2 w 0 neg (.slice p l c) e).heap.size by rw [HZ.out];omega));have hz3:w.heap.size+2≤w3.heap.size:=(by have h9:=hb3.size;have h8:(boxA2 w 0 neg (.slice p l c) e).heap.size≤w3.heap.size:=h9;rw [HZ.out] at h8;exact h8);have HDx:=aa hdx;have HOX:=aa hX;have S3:=aa G8.out.three;clear hb3 hdx hX)) | ((go_at_call_of 89 (Value.int IntKind.u64 t);refine (HO2.out _).mono ?_;rintro r w4 ⟨ny,vy,Y,ey,rfl,hdy,hY,hb4⟩;obtain⟨py,ly,cy,rfl⟩:=hdy.shape;have HB4:=aa (HB3.out.trans (hb4.mono HB3.out.size));have I8:=aa (G8.out.below hb4 (show w.heap.size+1<w3.heap.size by omega));have hz4:w.heap.size+2≤w4.heap.size:=Nat.le_trans hz3 hb4.size;have HDx4:=aa (HDx.out.below hb4);have HDy:=aa hdy;have HOY:=aa hY;have S4:=aa I8.out.three;clear hb4 hdy hY)) | ((go_at_call 136;refine (pK nx ny (.slice px lx cx) (.slice py ly cy) ex ey X Y w4 HDx4.out HDy.out (by have:=cU HOX.out.lt;omega) (by have:=cU HOY.out.lt;omega) (by have:=HOX.out.lo;omega) (by have:=HOX.out.hi;omega) (by have:=HOY.out.lo;omega) (by have:=HOY.out.hi;omega)).mono ?_;rintro r w5 ⟨nt,vt,Tt,et,rfl,hdt,hft,hst,hEt,hb5⟩;obtain⟨pt,lt,ct,rfl⟩:=hdt.shape;have HPU:=aa (Ba HOX.out HOY.out HXY.out.1.2 HXY.out.2.2 HXY.out.1.1 HXY.out.2.1 hst hEt);have HB5:=aa (HB4.out.trans (hb5.mono HB4.out.size));have J8:=aa (I8.out.below hb5 (show w.heap.size+1<w4.heap.size by omega));have hz5:w.heap.size+2≤w5.heap.size:=Nat.le_trans hz4 hb5.size;have HDt:=aa hdt;have S5:=aa J8.out.three;clear hb5 hdt hft hst hEt)) | ((go_at_call 88;obtain⟨E,hE⟩:∃ E,gG M e Tt et=E:=⟨_,rfl⟩;obtain⟨n,m,kk,hPL⟩:=IM (nm:=neg) (nx:=nt) HV.out.lo HV.out.hi HPU.out.2.1 HPU.out.2.2.1 (HV.out.nd hk).1 HPU.out.2.2.2.1 hE;refine (plus_any neg nt (.slice p l c) (.slice pt lt ct) e et E M Tt n m w5 (HD.out _ HB5.out) HDt.out hE hPL.hn hPL.hm (by have:=hPL.hn1;omega) (by have:=hPL.hm1;omega) (by have:=HV.out.nd hk;omega) (by have:=HPU.out.2.2.2.1;omega) hPL.had hPL.hbd).mono ?_;rintro r w6 ⟨neg',v',N',E',rfl,hd6,hf6,hs6,hE6,hb6⟩;obtain⟨p6,l6,c6,rfl⟩:=hd6.shape;have HDV:Hid (DV 0 neg' N' E' (N+az (x:Int)*az (y:Int)*2^(aM (x:Int)+aM (y:Int)+2148).toNat) (k+1)):=(by have hT:=zh (s:=0) (kk:=k+1) (kk':=k+1) hPL hs6 hE6 rfl (by rw [HV.out.val];exact Ec HV.out.bd HPU.out.2.2.2.2) (Nat.le_refl _);rw [HV.out.val,HPU.out.1] at hT;exact hT);have HB6:=aa (HB5.out.trans (hb6.mono HB5.out.size));have K8:=aa (J8.out.below hb6 (show w.heap.size+1<w5.heap.size by omega));have HD6:=aa hd6;have HF6:=aa (cK hf6 hz5);have S6:=aa K8.out.three;have k0:=K8.out.d0;have k1:=K8.out.d1;have k2:=K8.out.d2;have k3:=K8.out.d3;have l0:=K8.out.f0;have l1:=K8.out.f1;have l2:=K8.out.f2;have l3:=K8.out.f3;clear hd6 hf6 hs6 hE6 hb6 hPL hE)))
 go_wp2_with fail
 refine bodyPost_ret (v:=.agg #[.int .i64 0,.bool neg',.slice p6 l6 c6,.int .i64 E']) (by simp [results,Tryz.results99,go_sem,k0,k1,k2,k3]) rfl ?_
 rw [HT.out]
 exact⟨neg',_,N',E',rfl,lW HD6.out HF6.out (by omega),Or.inr (cK HF6.out (by omega)),HDV.out,dm HB6.out (by omega)⟩

theorem KJ (s:Nat) (neg:Bool) (v:Value) (M:Nat) (e:Int) (N:Int) (k x y:Nat) (u t:Int) (w:World) (hd:DN w v M) (hv:DV s neg M e N k) (hk:oQ k) (h:U64 u) (h':U64 t) (hu:Hid (u=(x:Int))) (ht:Hid (t=(y:Int))) :
  Calls Tryz.prog 99 #[AV (s:Int) neg v e,.int .u64 u,.int .u64 t] w (cA w v M (A.St.merge ⟨s,N⟩ (A.bp x y)) (k+1)):=by
 cases hno:(aw u&&aw t) with
 | false=>exact AY s neg v M e N k x y u t w hd hv hk h h' hu ht hno
 | true=>
  rw [Bool.and_eq_true] at hno
  by_cases h0:s=0
  ·subst h0;exact Bb neg v M e N k x y u t w hd hv hk h h' hu ht hno.1 hno.2
  ·exact xD s neg v M e N k x y u t w hd hv h0 h h' hu.out ht.out hno.1 hno.2
end Go.Proofs.YtjjlnmihkadlmaaGreat
namespace Go.Proofs.YtjjlnmihkadlmaaGreat
open Go.RowKit

theorem zj (N:Int):A.cV ⟨0,N⟩=valF N:=by unfold A.cV;rw [if_pos rfl]
theorem zk (N:Int):A.cV ⟨1,N⟩=9218868437227405312:=by unfold A.cV;dsimp only;rw [if_neg (by decide),if_pos rfl]
theorem zl (N:Int):A.cV ⟨2,N⟩=18442240474082181120:=by unfold A.cV;dsimp only;rw [if_neg (by decide),if_neg (by decide),if_pos rfl]
theorem zm (N:Int):A.cV ⟨3,N⟩=9221120237041090561:=by unfold A.cV;dsimp only;rw [if_neg (by decide),if_neg (by decide),if_neg (by decide)]
theorem Bc {neg:Bool} {M k:Nat} {e N:Int} (hv:DV 0 neg M e N k):bI neg M e false=(valF N:Int):=by
 have hval:=hv.val
 have hlo:=hv.lo
 unfold valF
 by_cases h0:M=0
 ·rw [h0,aL,Int.zero_mul] at hval
  rw [h0,← hval];unfold bI aH;rw [if_pos rfl,if_pos rfl];rfl
 ·obtain⟨q,hq⟩:∃ q,(e+2148).toNat=q:=⟨_,rfl⟩
  rw [hq] at hval
  obtain⟨m1,m2⟩:=gV (S:=sg neg M) q
  have hS0:sg neg M≠0:=by
   intro c
   have:=bu neg M
   rw [c] at this;exact h0 this.symm
  rw [eg neg e h0,← hval]
  unfold aH
  rw [if_neg (fun c=>hS0 (m2.1 c)),aT,bu]
  have h7:=bg h0 q e
  rw [show e - (q:Int)= -2148 by omega] at h7
  rw [h7]
  have hd:=jg (neg:=neg) h0
  cases neg
  ·rw [if_neg (by decide),if_neg (fun c=>by have:=m1.1 c;simp at hd;omega)];omega
  ·rw [if_pos rfl,if_pos (m1.2 (by simpa using hd))];omega

set_option maxHeartbeats 1600000 in
theorem KK (s:Nat) (neg:Bool) (v:Value) (M:Nat) (e:Int) (N:Int) (k:Nat) (w:World) (hd:DN w v M) (hv:DV s neg M e N k) (hk:oQ k) :
  Calls Tryz.prog 129 #[AV (s:Int) neg v e,.int .i64 1] w fun r w'=>r=.returned (.int .u64 (A.cV ⟨s,N⟩:Int))∧Below w.heap.size w w':=by
 obtain⟨p,l,c,rfl⟩:=hd.shape
 obtain⟨res,hres⟩:∃ res:Int,(A.cV ⟨s,N⟩:Int)=res:=⟨_,rfl⟩
 rw [hres]
 have hs3:=hv.s3
 have HB:Hid (Below w.heap.size w (boxA w (s:Int) neg (.slice p l c) e)):=(Below.refl _ _).alloc (Nat.le_refl _) _
 rcases (show s=0∨s=1∨s=2∨s=3 by omega) with rfl | rfl | rfl | rfl
 ·have hN:=Bc hv
  have hr:(valF N:Int)=res:=by rw [← hres,zj]
  have HNr:Hid (Calls Tryz.prog 164 #[.agg #[.bool neg,.slice p l c,.int .i64 e]] (boxA w 0 neg (.slice p l c) e) fun r w'=>r=.returned (.int .u64 res)∧Below (boxA w 0 neg (.slice p l c) e).heap.size (boxA w 0 neg (.slice p l c) e) w'):=by
   rw [← hr,← hN]
   exact fu neg _ e M _ (hd.below HB.out) (by have:=hv.nd hk;omega) (by have:=hv.lo;omega) (by have:=hv.hi;omega)
  clear hd hv hres hN hr
  go_enter Tryz.func129,Tryz.ntmps129
  go_wp2_with fail
  refine HNr.out.mono ?_
  rintro r w1 ⟨rfl,hb⟩
  have HB1:=aa (HB.out.trans (hb.mono HB.out.size))
  clear hb
  go_wp2_with fail
  go_ret
  exact⟨rfl,HB1.out⟩
 ·have hr:(9218868437227405312:Int)=res:=by rw [← hres,zk];rfl
  have HR:=aa hr
  clear hd hv hres hr
  go_enter Tryz.func129,Tryz.ntmps129
  go_wp2_with fail
  go_ret
  exact⟨be HR.out,HB.out⟩
 ·have hr:(18442240474082181120:Int)=res:=by rw [← hres,zl];rfl
  have HR:=aa hr
  have HF:=aa fun w=>gi 9218868437227405312 9218868437227405312 18442240474082181120 w rfl (by unfold U64;omega) rfl
  clear hd hv hres hr
  go_enter Tryz.func129,Tryz.ntmps129
  go_wp2_with fail
  refine (HF.out _).mono ?_
  rintro r w' ⟨rfl,rfl⟩
  go_wp2_with fail
  go_ret
  exact⟨be HR.out,HB.out⟩
 ·have hr:(9221120237041090561:Int)=res:=by rw [← hres,zm];rfl
  have HR:=aa hr
  clear hd hv hres hr
  go_enter Tryz.func129,Tryz.ntmps129
  go_wp2_with fail
  go_ret
  exact⟨be HR.out,HB.out⟩

end Go.Proofs.YtjjlnmihkadlmaaGreat
namespace Go.Proofs.YtjjlnmihkadlmaaGreat
open Go.RowKit

structure Held (w wr:World) (B:Nat) (a:A.St) (k:Nat):Prop where
 ex:∃ neg v M e,wr.heap[B]? =some (.cells #[.int .i64 (a.s:Int),.bool neg,v,.int .i64 e] 34 (0,0))∧DN wr v M∧From (B+1) v∧DV a.s neg M e a.N k
 bl:Below w.heap.size w wr
 lo:w.heap.size≤B
 lt:B<wr.heap.size
theorem Ej (w:World):Held w (boxA w 0 false (.slice none 0 0) 0) w.heap.size ⟨0,0⟩ 0:=
 ⟨⟨false,.slice none 0 0,0,0,heap_alloc_new w _,Or.inl ⟨rfl,_,_,rfl⟩,gP _,DV.zero (by decide) 0⟩,(Below.refl _ _).alloc (Nat.le_refl _) _,Nat.le_refl _,by simp⟩
structure Held4 (wr:World) (B:Nat) (s:Int) (neg:Bool) (v:Value) (e:Int):Prop where
 c0:wr.cell? ⟨B,0,none⟩=some (.int .i64 s)
 c1:wr.cell? ⟨B,1,none⟩=some (.bool neg)
 c2:wr.cell? ⟨B,2,none⟩=some v
 c3:wr.cell? ⟨B,3,none⟩=some (.int .i64 e)
 f0:wr.frozen? ⟨B,0,none⟩=false
 f1:wr.frozen? ⟨B,1,none⟩=false
 f2:wr.frozen? ⟨B,2,none⟩=false
 f3:wr.frozen? ⟨B,3,none⟩=false
theorem us {wr:World} {B:Nat} {s:Int} {neg:Bool} {v:Value} {e:Int} (hb:wr.heap[B]? =some (.cells #[.int .i64 s,.bool neg,v,.int .i64 e] 34 (0,0))):Held4 wr B s neg v e:=by
 refine⟨?_,?_,?_,?_,?_,?_,?_,?_⟩
 ·simp [World.cell?,hb]
 ·simp [World.cell?,hb]
 ·simp [World.cell?,hb]
 ·simp [World.cell?,hb]
 ·simp [World.frozen?,hb]
 ·simp [World.frozen?,hb]
 ·simp [World.frozen?,hb]
 ·simp [World.frozen?,hb]
theorem Be {w:World} {B:Nat} {s s':Int} {neg neg':Bool} {v v':Value} {e e':Int} (hb:w.heap[B]? =some (.cells #[.int .i64 s,.bool neg,v,.int .i64 e] 34 (0,0))):(put4 w B s' neg' v' e').heap[B]? =some (.cells #[.int .i64 s',.bool neg',v',.int .i64 e'] 34 (0,0)):=by
 have h1:=heap_setCell_same w B 0 _ _ (.int .i64 s') hb
 have h2:=heap_setCell_same _ B 1 _ _ (.bool neg') h1
 have h3:=heap_setCell_same _ B 2 _ _ v' h2
 have h4:=heap_setCell_same _ B 3 _ _ (.int .i64 e') h3
 rw [h4];rfl
theorem Ek {w wr w1:World} {B k:Nat} {s:Int} {neg:Bool} {v:Value} {M:Nat} {e:Int} {a:A.St} {r:Ending} (hb:wr.heap[B]? =some (.cells #[.int .i64 s,.bool neg,v,.int .i64 e] 34 (0,0))) (hv:From (B+1) v) (hbl:Below w.heap.size w wr) (hlo:w.heap.size≤B) (hlt:B<wr.heap.size) (h:cA wr v M a k r w1) :
  ∃ neg' p l c e',r=.returned (AV (a.s:Int) neg' (.slice p l c) e')∧Held4 w1 B s neg v e∧Held w (put4 w1 B (a.s:Int) neg' (.slice p l c) e') B a k:=by
 obtain⟨neg',v',M',e',rfl,hd,hn,hdv,hb1⟩:=h
 obtain⟨p,l,c,rfl⟩:=hd.shape
 have hb':w1.heap[B]? =some (.cells #[.int .i64 s,.bool neg,v,.int .i64 e] 34 (0,0)):=by rw [hb1.block B hlt];exact hb
 have hf:From (B+1) (.slice p l c):=by
  rcases hn with⟨hn,_⟩| hn
  ·rw [hn];exact hv
  ·exact cK hn hlt
 have hbw:Below w.heap.size w w1:=hbl.trans (hb1.mono hbl.size)
 refine⟨neg',p,l,c,e',rfl,us hb',⟨neg',_,M',e',Be hb',lW hd hf (by omega),hf,hdv⟩,dm hbw hlo,hlo,?_⟩
 have:=hb1.size
 simp
 omega

theorem El (a:A.St):(⟨a.s,a.N⟩:A.St)=a:=rfl

end Go.Proofs.YtjjlnmihkadlmaaGreat
namespace Go.Proofs.YtjjlnmihkadlmaaGreat
open Go.RowKit

theorem En (q:Nat) (m:Nat) (h0:q≠0) (hm:m≤1):(2*q+m).log2=q.log2+1:=by
 have a:=Nat.log2_self_le h0
 have b:q<2^(q.log2+1):=Nat.lt_log2_self
 have c:(2*q+m).log2<q.log2+1+1:=(Nat.log2_lt (by omega)).2 (by rw [Nat.pow_succ];omega)
 have d:q.log2+1≤(2*q+m).log2:=(Nat.le_log2 (by omega)).2 (by rw [Nat.pow_succ];omega)
 omega
theorem Eo {q:Nat} (more:Bool):nearR (mant q more) (iQ q)=nearR (2*q+more.toNat) (-2149):=by
 have hm:more.toNat≤1:=by cases more<;>decide
 by_cases hl:q.log2<61
 ·have hq:q<2^61:=by
   by_cases h0:q=0
   ·rw [h0];decide
   ·exact (Nat.log2_lt h0).1 hl
  have h1:=GF q more
  have h2:iQ q< -1139:=by unfold iQ;split<;>omega
  rw [gO (by omega) h2,gO (by omega) (by decide)]
 ·have h0:q≠0:=fun c=>by rw [c] at hl;exact hl (by decide)
  obtain⟨t,ht⟩:∃ t,q.log2=t+61:=⟨q.log2 - 61,by omega⟩
  have e1:mant q more=bH (2*q+more.toNat) (t+1) false:=by
   unfold mant bH
   rw [if_neg h0,ht,show t+61+3=64+t by omega,Nat.pow_add 2 64 t,Nat.mul_comm q,Nat.mul_mod_mul_left,Nat.mul_div_mul_left _ _ (Nat.two_pow_pos 64),show (2:Nat)^(t+1)=2*2^t by rw [Nat.pow_succ,Nat.mul_comm]]
   have hd:(2*q+more.toNat) / (2*2^t)=q / 2^t:=by
    rw [← Nat.div_div_eq_div_mul]
    congr 1
    omega
   have hr:(2*q+more.toNat) % (2*2^t)=2*(q % 2^t)+more.toNat:=by
    have e:=Nat.div_add_mod q (2^t)
    have hlt:q % 2^t<2^t:=Nat.mod_lt _ (Nat.two_pow_pos t)
    generalize q / 2^t=Q at *
    generalize q % 2^t=R at *
    generalize 2^t=T at *
    have e2:2*q+more.toNat=2*R+more.toNat+2*T*Q:=by rw [← e,Nat.mul_add,Nat.mul_assoc];omega
    rw [e2,Nat.add_mul_mod_self_left,Nat.mod_eq_of_lt (by omega)]
   rw [hd,hr]
   have hp:=Nat.two_pow_pos 64
   have hz:(2^64*(q % 2^t)=0∧more=false)↔(2*(q % 2^t)+more.toNat=0∧(false:Bool)=false):=by
    constructor
    ·rintro⟨a,b⟩
     rcases Nat.mul_eq_zero.1 a with c | c
     ·omega
     ·rw [c,b];exact⟨rfl,rfl⟩
    ·rintro⟨a,_⟩
     have c:q % 2^t=0:=by omega
     refine⟨by rw [c,Nat.mul_zero],?_⟩
     cases more
     ·rfl
     ·rw [c] at a;exact absurd a (by decide)
   simp only [hz]
  have e2:iQ q=((t+1:Nat):Int)+ -2149:=by unfold iQ;rw [if_neg h0,ht];omega
  rw [e1,e2,jQ (by omega) (by rw [En q _ h0 hm,ht];omega)]
theorem Ep {q:Nat} {more:Bool} (h:q≠0∨more=true):mant q more≠0:=by
 unfold mant
 by_cases h0:q=0
 ·rw [if_pos h0]
  rcases h with h | h
  ·exact absurd h0 h
  ·rw [h];decide
 ·rw [if_neg h0]
  have hp:=Nat.two_pow_pos 64
  have hq:q*2^64≠0:=fun c=>by
   rcases Nat.mul_eq_zero.1 c with c | c<;>omega
  have hl:q.log2+3≤(q*2^64).log2:=by rw [cN h0];omega
  exact (cI more hl hq).2
theorem kH (N:Int) (d:Nat):A.fD N d=if N=0 then 0 else wrd (decide (N<0)) (nearR (aR N.natAbs d 0) (-2149)):=by
 unfold A.fD
 have hq:aR N.natAbs d 0=2*(N.natAbs / d)+(decide (N.natAbs % d≠0)).toNat:=by
  unfold aR
  rw [Nat.pow_zero,Nat.mul_one]
  by_cases hr:N.natAbs % d=0<;>simp [hr]
 rw [hq,← Eo]
 by_cases h0:N=0
 ·rw [if_pos h0,h0]
  have:(0:Int).natAbs=0:=rfl
  rw [this,Nat.zero_div,Nat.zero_mod]
  rfl
 ·rw [if_neg h0]
  have hm:mant (N.natAbs / d) (decide (N.natAbs % d≠0))≠0:=by
   apply Ep
   by_cases hr:N.natAbs % d=0
   ·refine Or.inl (fun c=>?_)
    have:=Nat.div_add_mod N.natAbs d
    rw [c,hr,Nat.mul_zero] at this
    omega
   ·exact Or.inr (by simp [hr])
  generalize mant (N.natAbs / d) (decide (N.natAbs % d≠0))=m at *
  generalize iQ (N.natAbs / d)=ex at *
  unfold aH sgM wrd
  by_cases hn:N<0
  ·simp only [hn,decide_true,if_true]
   rw [if_neg (by omega),if_pos (by omega),Int.natAbs_neg,Int.natAbs_natCast]
  ·simp only [hn,decide_false,Bool.false_eq_true,if_false]
   rw [if_neg (by omega),if_neg (by omega),Int.natAbs_natCast]
end Go.Proofs.YtjjlnmihkadlmaaGreat
