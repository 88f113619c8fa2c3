/-  -/
import Derived.Test.YtfdddijdjpijbaaGreatHax
import Derived.Test.YtfdddijdjpijbaaGreatHbj
import Derived.Test.YtfdddijdjpijbaaGreatHar
import Derived.Test.YtfdddijdjpijbaaGreatHay
import Derived.Test.YtfdddijdjpijbaaGreatHaz
set_option maxHeartbeats 3200000
set_option maxRecDepth 10000
namespace Go.Proofs.YtfdddijdjpijbaaGreat
open Go.RowKit
abbrev AV (s:Int) (neg:Bool) (v:Value) (e:Int):Value:=.agg #[.int .i64 s,.bool neg,v,.int .i64 e]
abbrev boxA (w:World) (s:Int) (neg:Bool) (v:Value) (e:Int):World:=w.alloc (.cells #[.int .i64 s,.bool neg,v,.int .i64 e] 85)
abbrev boxA2 (w:World) (s:Int) (neg:Bool) (v:Value) (e:Int):World:=boxA (boxA w s neg v e) 0 false (.slice none 0 0) 0
theorem iw (w:World) (s:Int) (neg:Bool) (v:Value) (e:Int):(boxA2 w s neg v e).heap.size=w.heap.size+2:=by simp
theorem dh (w:World) (s:Int) (neg:Bool) (v:Value) (e:Int):Below w.heap.size w (boxA2 w s neg v e):=
 ((Below.refl _ _).alloc (Nat.le_refl _) _).trans (((Below.refl _ _).alloc (Nat.le_refl _) _).mono (by simp))
structure Cells8 (w' w:World) (s:Int) (neg:Bool) (v:Value) (e:Int):Prop where
 c0:w'.cell? ⟨w.heap.size,0,none⟩=some (.int .i64 s)
 c1:w'.cell? ⟨w.heap.size,1,none⟩=some (.bool neg)
 c2:w'.cell? ⟨w.heap.size,2,none⟩=some v
 c3:w'.cell? ⟨w.heap.size,3,none⟩=some (.int .i64 e)
 d0:w'.cell? ⟨w.heap.size+1,0,none⟩=some (.int .i64 0)
 d1:w'.cell? ⟨w.heap.size+1,1,none⟩=some (.bool false)
 d2:w'.cell? ⟨w.heap.size+1,2,none⟩=some (.slice none 0 0)
 d3:w'.cell? ⟨w.heap.size+1,3,none⟩=some (.int .i64 0)
 f0:w'.frozen? ⟨w.heap.size+1,0,none⟩=false
 f1:w'.frozen? ⟨w.heap.size+1,1,none⟩=false
 f2:w'.frozen? ⟨w.heap.size+1,2,none⟩=false
 f3:w'.frozen? ⟨w.heap.size+1,3,none⟩=false
theorem dL (w:World) (s:Int) (neg:Bool) (v:Value) (e:Int):Cells8 (boxA2 w s neg v e) w s neg v e:=by
 have c:Below (boxA w s neg v e).heap.size (boxA w s neg v e) (boxA2 w s neg v e):=(Below.refl _ _).alloc (Nat.le_refl _) _;have b:w.heap.size<(boxA w s neg v e).heap.size:=by simp
 have a:w.heap.size+1=(boxA w s neg v e).heap.size:=by simp
 refine⟨?_,?_,?_,?_,?_,?_,?_,?_,?_,?_,?_,?_⟩
 ·rw [c.cell (p:=⟨w.heap.size,0,none⟩) b];simp
 ·rw [c.cell (p:=⟨w.heap.size,1,none⟩) b];simp
 ·rw [c.cell (p:=⟨w.heap.size,2,none⟩) b];simp
 ·rw [c.cell (p:=⟨w.heap.size,3,none⟩) b];simp
 ·rw [a];simp
 ·rw [a];simp
 ·rw [a];simp
 ·rw [a];simp
 ·rw [a];exact World.frozen?_alloc_new _ _ _ _
 ·rw [a];exact World.frozen?_alloc_new _ _ _ _
 ·rw [a];exact World.frozen?_alloc_new _ _ _ _
 ·rw [a];exact World.frozen?_alloc_new _ _ _ _
theorem Cells8.below {w1 f w:World} {s:Int} {neg:Bool} {v:Value} {e:Int} {b:Nat} (h:Cells8 w1 w s neg v e) (a:Below b w1 f) (c:w.heap.size+1<b):Cells8 f w s neg v e:=by
 have d:w.heap.size<b:=by omega
 exact⟨(a.cell (p:=⟨w.heap.size,0,none⟩) d).trans h.c0,(a.cell (p:=⟨w.heap.size,1,none⟩) d).trans h.c1,(a.cell (p:=⟨w.heap.size,2,none⟩) d).trans h.c2,(a.cell (p:=⟨w.heap.size,3,none⟩) d).trans h.c3,
  (a.cell (p:=⟨w.heap.size+1,0,none⟩) c).trans h.d0,(a.cell (p:=⟨w.heap.size+1,1,none⟩) c).trans h.d1,(a.cell (p:=⟨w.heap.size+1,2,none⟩) c).trans h.d2,(a.cell (p:=⟨w.heap.size+1,3,none⟩) c).trans h.d3,
  (a.frozen (p:=⟨w.heap.size+1,0,none⟩) c).trans h.f0,(a.frozen (p:=⟨w.heap.size+1,1,none⟩) c).trans h.f1,(a.frozen (p:=⟨w.heap.size+1,2,none⟩) c).trans h.f2,(a.frozen (p:=⟨w.heap.size+1,3,none⟩) c).trans h.f3⟩
abbrev put4 (w:World) (b:Nat) (s:Int) (neg:Bool) (v:Value) (e:Int):World:=
 (((w.setCell ⟨b,0,none⟩ (.int .i64 s)).setCell ⟨b,1,none⟩ (.bool neg)).setCell ⟨b,2,none⟩ v).setCell ⟨b,3,none⟩ (.int .i64 e)
theorem bT {w w1:World} {B b:Nat} {s:Int} {neg:Bool} {v:Value} {e:Int} (h:Below B w w1) (a:B<=b):Below B w (put4 w1 b s neg v e):=
 (((h.setCell (p:=⟨b,0,none⟩) a _).setCell (p:=⟨b,1,none⟩) a _).setCell (p:=⟨b,2,none⟩) a _).setCell (p:=⟨b,3,none⟩) a _
theorem lG {w:World} {b B M:Nat} {s:Int} {neg:Bool} {v u:Value} {e:Int} (h:DN w u M) (c:From B u) (d:b<B):DN (put4 w b s neg v e) u M:=
 (((h.set c (a:=⟨b,0,none⟩) d _).set c (a:=⟨b,1,none⟩) d _).set c (a:=⟨b,2,none⟩) d _).set c (a:=⟨b,3,none⟩) d _
theorem OI (s:Nat) (t:Nat) (b:s<=3) (a:t=1\/t=2):A.mt s t=if s=0\/s=t then t else 3:=by
 unfold A.mt;rcases a with rfl | rfl
 all_goals rcases (show s=0\/s=1\/s=2\/s=3 by omega) with rfl | rfl | rfl | rfl<;>decide
theorem Mq (s:Nat) (neg b:Bool) (v:Value) (e:Int) (w:World) (c:s<=3) :
  Calls Tryz.prog 150 #[AV (s:Int) neg v e,.bool b] w fun x a=>x=.returned (AV (A.mt s (if b then 2 else 1):Nat) false (.slice none 0 0) 0)/\Below w.heap.size w a:=by
 cases b
 all_goals
  rcases (show s=0\/s=1\/s=2\/s=3 by omega) with rfl | rfl | rfl | rfl
  all_goals
   go_enter Tryz.func150,Tryz.ntmps150
   go_wp2_with fail
   refine bodyPost_ret (v:=.agg #[.int .i64 _,.bool false,.slice none 0 0,.int .i64 0]) (by simp [results,Tryz.results150,go_sem];rfl) rfl ⟨rfl,?_⟩
   exact ((Below.refl _ _).alloc (Nat.le_refl _) _).trans (((Below.refl _ _).alloc (Nat.le_refl _) _).mono (by simp))
structure DV (s:Nat) (neg:Bool) (M:Nat) (e N:Int) (k:Nat):Prop where
 s3:s<=3
 lo: -2148<=e
 hi:e<=2000
 val:sg neg M*((2^(e+2148).toNat:Nat):Int)=N
 none:s≠0->N=0
 bd:∃ K,K=4200/\N.natAbs<=k*2^K
theorem DV.zero {s:Nat} (h:s<=3) (k:Nat):DV s false 0 0 0 k:=
 ⟨h,by decide,by decide,by rw [aT,Int.zero_mul],fun _=>rfl,4200,rfl,Nat.zero_le _⟩
theorem DV.mono {s:Nat} {neg:Bool} {M:Nat} {e N:Int} {k a:Nat} (h:DV s neg M e N k) (c:k<=a):DV s neg M e N a:=by
 obtain⟨K,b,d⟩:=h.bd;exact⟨h.s3,h.lo,h.hi,h.val,h.none,K,b,Nat.le_trans d (Nat.mul_le_mul_right _ c)⟩
theorem DV.le {s:Nat} {neg:Bool} {M:Nat} {e N:Int} {k:Nat} (h:DV s neg M e N k):M<=N.natAbs:=by
 rw [<- h.val,Int.natAbs_mul,bF,Int.natAbs_natCast];exact Nat.le_mul_of_pos_right _ (Nat.two_pow_pos _)
def oe (k:Nat):Prop:=∃ j,j=150/\k<=2^j
theorem oE {k:Nat} (h:k<=1000):oe k:=⟨150,rfl,Nat.le_trans h (by decide)⟩
theorem DV.nd {s:Nat} {neg:Bool} {M:Nat} {e N:Int} {k:Nat} (h:DV s neg M e N k) (a:oe k):nd M<=1000/\nd M<=137:=by
 obtain⟨K,f,n⟩:=h.bd;obtain⟨j,g,a⟩:=a;have d:M<2^(K+j+1):=by
  have m:=h.le;have b:k*2^K<=2^j*2^K:=Nat.mul_le_mul_right _ a;rw [<- Nat.pow_add] at b
  rw [Nat.pow_succ,Nat.add_comm K j];have l:=Nat.two_pow_pos (j+K);generalize 2^(j+K)=P at *
  omega
 obtain⟨c,i⟩:∃ c:Nat,c=137:=⟨_,rfl⟩;have:=bL (N:=M) (k:=c) (Nat.lt_of_lt_of_le d (Nat.pow_le_pow_right (by decide) (by omega)))
 omega
structure PL (M X:Nat) (nm nx:Bool) (e ex E:Int) (n m:Nat) (S T:Int) (k:Nat):Prop where
 hn:M≠0->e - E=(n:Int)
 hm:X≠0->ex - E=(m:Int)
 hn1:n<=5000
 hm1:m<=5000
 lo: -2148<=E
 hi:E<=2000
 hk:E+2148=(k:Int)
 had:nd (M*2^n)<=10000000
 hbd:nd (X*2^m)<=10000000
 val:S*((2^k:Nat):Int)=T
theorem xD {M n:Nat} (h:nd M<=1000) (hn:n<=5000):nd (M*2^n)<=10000000:=by
 have a:M*2^n<2^(32*nd M)*2^n:=Nat.mul_lt_mul_of_pos_right (cZ M) (Nat.two_pow_pos _);rw [<- Nat.pow_add] at a
 have:=bL (N:=M*2^n) (k:=nd M+n / 32+1) (Nat.lt_of_lt_of_le a (Nat.pow_le_pow_right (by decide) (by omega)))
 omega
theorem sX {M n k:Nat} {neg:Bool} {e:Int} (b:M≠0->n+k=(e+2148).toNat):sg neg (M*2^n)*((2^k:Nat):Int)=sg neg M*((2^(e+2148).toNat:Nat):Int):=by
 rw [<- ip,<- ip,Nat.mul_assoc,<- Nat.pow_add]
 by_cases a:M=0
 ·rw [a,Nat.zero_mul,Nat.zero_mul]
 ·rw [b a]
theorem Oa {M X:Nat} {nm nx:Bool} {e ex E:Int} (o: -2148<=e) (g:e<=2000) (j: -2148<=ex) (r:ex<=2000) (l:nd M<=1000) (q:nd X<=1000) (s:iQ M e X ex=E) :
  ∃ n m k,PL M X nm nx e ex E n m (sg nm (M*2^n)+sg nx (X*2^m)) (sg nm M*((2^(e+2148).toNat:Nat):Int)+sg nx X*((2^(ex+2148).toNat:Nat):Int)) k:=by
 have c: -2148<=E/\E<=2000/\(M≠0->E<=e)/\(X≠0->E<=ex):=by
  rw [<- s];unfold iQ
  by_cases a:M=0
  ·rw [if_pos a];refine⟨j,r,fun h=>absurd a h,fun _=>Int.le_refl _⟩
  ·rw [if_neg a]
   by_cases b:X=0
   ·rw [if_pos b];exact⟨o,g,fun _=>Int.le_refl _,fun h=>absurd b h⟩
   ·rw [if_neg b];refine⟨by omega,by omega,fun _=>by omega,fun _=>by omega⟩
 obtain⟨i,p,f,d⟩:=c;refine⟨(e - E).toNat,(ex - E).toNat,(E+2148).toNat,fun h=>by have:=f h;omega,fun h=>by have:=d h;omega,by omega,by omega,i,p,by omega,xD l (by omega),xD q (by omega),?_⟩
 rw [Int.add_mul,sX (e:=e) (fun h=>by have:=f h;omega),sX (e:=ex) (fun h=>by have:=d h;omega)]
theorem CR {s M X d n m k kk kk':Nat} {nm nx a:Bool} {e ex E f T:Int} (h:PL M X nm nx e ex E n m (sg nm (M*2^n)+sg nx (X*2^m)) T k) (t:sg a d=sg nm (M*2^n)+sg nx (X*2^m)) (u:f=E\/(f=0/\d=0)) (g:s=0) (i:∃ K,K=4200/\T.natAbs<=kk*2^K) (j:kk<=kk'):DV s a d f T kk':=by
 obtain⟨K,o,i⟩:=i;have b:=h.val;rw [<- t] at b
 have q:=h.lo;have p:=h.hi;have v:=h.hk;refine⟨by omega,by omega,by omega,?_,fun c=>absurd g c,K,o,Nat.le_trans i (Nat.mul_le_mul_right _ j)⟩
 rcases u with l | ⟨l,r⟩
 ·rw [l,show (E+2148).toNat=k by omega];exact b
 ·rw [r,aT,Int.zero_mul] at b ⊢;exact b
theorem pR {p:Nat} {neg:Bool} {N:Nat} {e:Int} (h:OfR p neg N e) (j:p<18446744073709551616) (hn:af p):aA (p:Int)*((2^(aQ (p:Int)+2148).toNat:Nat):Int)=sg neg N*((2^(e+2148).toNat:Nat):Int)/\az (p:Int)=true/\(N≠0->aA (p:Int)=sg neg N/\aQ (p:Int)=e)/\(N=0->aA (p:Int)=0):=by
 have b:=dR p;have g:=hn;unfold af at g
 have f:az (p:Int)=true:=by unfold az;rw [b];simp;omega
 have d:(N≠0->aA (p:Int)=sg neg N/\aQ (p:Int)=e)/\(N=0->aA (p:Int)=0):=by
  refine⟨fun a=>?_,fun a=>?_⟩
  ·obtain⟨i,n⟩:=h.mag a;have k:p % 9223372036854775808≠0:=by
    intro m;rw [m] at i;exact a (by rw [i];decide)
   have q:fZ ((p % 9223372036854775808:Nat):Int)=(mg (p % 9223372036854775808):Int):=by
    generalize p % 9223372036854775808=r at *
    unfold fZ mg
    by_cases c:r<4503599627370496
    ·rw [if_pos c,if_pos (by omega)]
    ·rw [if_neg c,if_neg (by omega)];omega
   have t:kw ((p % 9223372036854775808:Nat):Int)= -1074+(pl (p % 9223372036854775808):Int):=by
    generalize p % 9223372036854775808=r at *
    unfold kw pl
    by_cases c:r<4503599627370496
    ·rw [if_pos (by omega)];omega
    ·rw [if_neg (by omega)];omega
   constructor
   ·unfold aA;rw [f,if_pos rfl,b,q,<- i,fQ j,<- h.sgn a]
    rfl
   ·unfold aQ;rw [f,b,t,<- n,show decide (((p % 9223372036854775808:Nat):Int)≠0)=true by simpa using fun h=>k (by omega)]
    rfl
  ·have o:p % 9223372036854775808=0:=by
    have:=h.val;rw [a,Nat.zero_mul] at this
    have l:=eX (r:=p % 9223372036854775808) (s:=0);rw [bp] at l
    exact l.1 this.symm
   unfold aA;rw [f,if_pos rfl,b,o,show fZ ((0:Nat):Int)=0 from rfl]
   split<;>rfl
 refine⟨?_,f,d⟩
 by_cases a:N=0
 ·rw [d.2 a,a,aT,Int.zero_mul,Int.zero_mul]
 ·rw [(d.1 a).1,(d.1 a).2]
theorem Mr {x:Nat} {nx:Bool} {X:Nat} {ex:Int} (h:OfR x nx X ex) (a:x<18446744073709551616) (hn:af x):sg nx X*((2^(ex+2148).toNat:Nat):Int)=A.nE (x:Int):=by
 rw [<- (pR h a hn).1];unfold A.nE;rw [Int.natCast_pow];rfl
theorem Is {x:Nat} {nx:Bool} {X:Nat} {ex:Int} (h:OfR x nx X ex):∃ K,K=4200/\(sg nx X*((2^(ex+2148).toNat:Nat):Int)).natAbs<=1*2^K:=by
 refine⟨4200,rfl,?_⟩
 obtain⟨K,b⟩:∃ K:Nat,K=4200:=⟨_,rfl⟩;rw [<- b];rw [Int.natAbs_mul,bF,Int.natAbs_natCast,Nat.one_mul];have c:=h.lt;have d:=h.hi;have a:X*2^(ex+2148).toNat<=2^53*2^(ex+2148).toNat:=Nat.mul_le_mul_right _ (by omega)
 rw [<- Nat.pow_add] at a
 exact Nat.le_trans a (Nat.pow_le_pow_right (by decide) (by omega))
theorem It {A B:Int} {k:Nat} (g:∃ K,K=4200/\A.natAbs<=k*2^K) (e:∃ K,K=4200/\B.natAbs<=1*2^K):∃ K,K=4200/\(A+B).natAbs<=(k+1)*2^K:=by
 obtain⟨K,f,a⟩:=g;obtain⟨c,d,b⟩:=e;have:c=K:=by omega
 subst this;refine⟨c,f,?_⟩
 rw [Nat.add_mul];generalize k*2^c=P at *
 generalize 1*2^c=Q at *
 omega
theorem fT {w1 w:World} {s:Int} {neg:Bool} {v:Value} {e:Int} (h:Cells8 w1 w s neg v e):Cells8 w1.drew w s neg v e:=⟨h.c0,h.c1,h.c2,h.c3,h.d0,h.d1,h.d2,h.d3,h.f0,h.f1,h.f2,h.f3⟩
theorem cW {A B:Nat} {v:Value} (h:From B v) (b:A<=B):From A v:=fun a l c e=>Nat.le_trans b (h a l c e)
def cj (w:World) (v:Value) (M:Nat) (a:A.St) (k:Nat) (r:Ending) (e:World):Prop:=
 ∃ b c d f,r=.returned (AV (a.s:Int) b c f)/\DN e c d/\(c=v/\d=M\/From w.heap.size c)/\DV a.s b d f a.N k/\Below w.heap.size w e
theorem nF {w b:World} {v:Value} {M:Nat} {a:A.St} {k:Nat} {s:Int} (c:(a.s:Int)=s) (e:a.s<=3) (d:a.N=0) (f:Below w.heap.size w b) :
  cj w v M a k (.returned (AV s false (.slice none 0 0) 0)) b:=by
 refine⟨false,.slice none 0 0,0,0,by rw [c],Or.inl ⟨rfl,_,_,rfl⟩,Or.inr (gu _),by rw [d];exact DV.zero e k,f⟩
theorem Ew (s:Nat) (N:Int) (a:s<=3):A.St.merge ⟨s,N⟩ ⟨3,0⟩=⟨3,0⟩:=by
 unfold A.St.merge A.mt;rcases (show s=0\/s=1\/s=2\/s=3 by omega) with rfl | rfl | rfl | rfl<;>rfl
theorem iz {s:Nat} {N M:Int}:A.St.merge ⟨s,N⟩ ⟨0,M⟩=⟨s,if s=0 then N+M else 0⟩:=by
 unfold A.St.merge;have e:A.mt s 0=s:=by simp [A.mt]
 simp only [e]
theorem Iu {u:Int} (h:ah u=true):A.dB u=⟨3,0⟩:=by
 have a:az u=false:=by
  unfold az;unfold ah at h
  rw [decide_eq_true_eq] at h
  rw [decide_eq_false_iff_not];omega
 unfold A.dB A.endN;rw [a,h];rfl
theorem Iv {u:Int} (h:aY u=true):A.dB u=⟨if sgB u then 2 else 1,0⟩:=by
 have a:szI u=9218868437227405312:=by unfold aY at h;simpa using h
 have b:az u=false:=by unfold az;rw [a];rfl
 have c:ah u=false:=by unfold ah;rw [a];rfl
 unfold A.dB A.endN;rw [b,c];rfl
theorem Iw (s:Nat) (neg:Bool) (v:Value) (M:Nat) (e:Int) (N:Int) (k:Nat) (u:Int) (w:World) (i:s<=3) (h:U64 u) (hn:ah u=true) :
  Calls Tryz.prog 109 #[AV (s:Int) neg v e,.int .u64 u] w (cj w v M (A.St.merge ⟨s,N⟩ (A.dB u)) k):=by
 have f:=aa (aj u · h);rw [hn] at f
 obtain⟨c,b⟩:∃ c,A.St.merge ⟨s,N⟩ (A.dB u)=c:=⟨_,rfl⟩;have d:Hid (c=⟨3,0⟩):=by show _=_;rw [<- b,Iu hn,Ew s N i]
 rw [b];have g:=aa (dL w (s:Int) neg v e);have t:=aa (dh w (s:Int) neg v e);obtain⟨c0,c1,c2,c3,q,n,j,y,l,p,r,m⟩:=g.out;clear h hn b
 go_enter Tryz.func109,Tryz.ntmps109
 go_wp2_with fail
 refine (aG (f.out _)).mono ?_
 rintro x o ⟨rfl,rfl⟩
 go_wp2_with fail
 refine bodyPost_ret (v:=.agg #[.int .i64 3,.bool false,.slice none 0 0,.int .i64 0]) (by simp [results,Tryz.results109,go_sem]) rfl ?_
 exact nF (v:=v) (M:=M) (a:=c) (k:=k) (s:=3) (by rw [d.out];rfl) (by rw [d.out];decide) (by rw [d.out]) (((Below.refl _ _).alloc (Nat.le_refl _) _).trans (((Below.refl _ _).alloc (Nat.le_refl _) _).mono (by simp)))
theorem Ix (s:Nat) (neg:Bool) (v:Value) (M:Nat) (e:Int) (N:Int) (k:Nat) (u:Int) (w:World) (B:s<=3) (h:U64 u) (hn:ah u=false) (hi:aY u=true) :
  Calls Tryz.prog 109 #[AV (s:Int) neg v e,.int .u64 u] w (cj w v M (A.St.merge ⟨s,N⟩ (A.dB u)) k):=by
 have E:=aa (aj u · h);have F:=aa (aw u · h);rw [hn] at E
 rw [hi] at F
 obtain⟨b,o⟩:∃ b,sgB u=b:=⟨_,rfl⟩;have y:Hid (∀ w,Calls Tryz.prog 151 #[.int .u64 u] w fun e r=>e=.returned (.bool b)/\w=r):=fun w=>by
  have:=bV u w;rw [o] at this
  exact aG this
 obtain⟨t,f⟩:∃ t,A.St.merge ⟨s,N⟩ (A.dB u)=t:=⟨_,rfl⟩;obtain⟨m,j⟩:∃ m:Nat,A.mt s (if b then 2 else 1)=m:=⟨_,rfl⟩
 have l:m<=3:=by rw [<- j];exact A.NY B (by split<;>omega)
 have n:m≠0:=by
  rw [<- j,OI s _ B (by cases b<;>simp)]
  cases b<;>simp<;>split<;>omega
 have q:Hid (t=⟨m,0⟩):=by
  show _=_
  rw [<- f,Iv hi,o];unfold A.St.merge;dsimp only;rw [j,if_neg n]
 rw [f];have c:=aa fun w=>Mq s neg b v e w B
 rw [j] at c
 obtain⟨p,i⟩:∃ p:Int,(m:Int)=p:=⟨_,rfl⟩;rw [i] at c
 have G:=aa fun (H:World) (o:Below w.heap.size w H)=>nF (v:=v) (M:=M) (a:=t) (k:=k) (s:=p) (by rw [q.out];exact i) (by rw [q.out];exact l) (by rw [q.out]) o
 have D:=aa (dL w (s:Int) neg v e);have O:=aa (dh w (s:Int) neg v e);have C:=aa (iw w (s:Int) neg v e);obtain⟨c0,c1,c2,c3,Y,W,P,d3,R,X,f2,T⟩:=D.out;clear h hn hi f o j n l i q
 go_enter Tryz.func109,Tryz.ntmps109
 go_wp2_with fail
 refine (aG (E.out _)).mono ?_
 rintro x r ⟨rfl,rfl⟩
 go_wp2_with fail
 refine (aG (F.out _)).mono ?_
 rintro x r ⟨rfl,rfl⟩
 go_wp2_with fail
 go_region_with (first | ((go_at_call 151;refine (y.out _).mono ?_;rintro x r ⟨rfl,rfl⟩)) | ((go_at_call 150;refine (c.out _).mono ?_;rintro x V ⟨rfl,g⟩;have z:=aa (O.out.drew.trans (g.mono (show w.heap.size<=(boxA2 w (s:Int) neg v e).heap.size by rw [C.out];omega)));have d:=aa (Cells8.below (fT D.out) g (show w.heap.size+1<(boxA2 w (s:Int) neg v e).heap.size by rw [C.out];omega));have L:=d.out.d0;have J:=d.out.d1;have I:=d.out.d2;have K:=d.out.d3;have U:=d.out.f0;have S:=d.out.f1;have Z:=d.out.f2;have Q:=d.out.f3;clear g)))
 all_goals
  go_wp2_with fail
  refine bodyPost_ret (v:=.agg #[.int .i64 p,.bool false,.slice none 0 0,.int .i64 0]) (by simp [results,Tryz.results109,go_sem,L,J,I,K]) rfl ?_
  exact G.out _ (bT z.out (by omega))
theorem Ex (s:Nat) (neg:Bool) (v:Value) (M:Nat) (e:Int) (N:Int) (k x:Nat) (u:Int) (w:World) (i:DN w v M) (f:DV s neg M e N k) (b:s≠0) (h:U64 u) (hn:ah u=false) (hi:aY u=false) (g:u=(x:Int)) :
  Calls Tryz.prog 109 #[AV (s:Int) neg v e,.int .u64 u] w (cj w v M (A.St.merge ⟨s,N⟩ (A.dB u)) (k+1)):=by
 have n:=aa (aj u · h);have o:=aa (aw u · h);rw [hn] at n
 rw [hi] at o
 obtain⟨j,a⟩:∃ j,A.St.merge ⟨s,N⟩ (A.dB u)=j:=⟨_,rfl⟩;have t:Hid (j=⟨s,N⟩):=by
  show _=_
  have C:az u=true:=by
   have:=fx g hn hi;unfold af at this
   unfold az;rw [g,dR];simp;omega
  have r:A.dB u=⟨0,A.nE u⟩:=by unfold A.dB;rw [C];rfl
  rw [<- a,r,iz,if_neg b,f.none b]
 rw [a];obtain⟨p,l,c,rfl⟩:=i.shape;have z:=aa i;have y:=aa (f.mono (show k<=k+1 by omega))
 have D:(((s:Int) !=0))=true:=by simp;omega
 have m:((s:Int)==0)=false:=by simp;omega
 have q:=aa (dL w (s:Int) neg (.slice p l c) e);have O:=aa (dh w (s:Int) neg (.slice p l c) e);obtain⟨c0,c1,c2,c3,J,H,E,L,F,I,K,G⟩:=q.out;clear h hn hi a i f g b
 go_enter Tryz.func109,Tryz.ntmps109
 go_wp2_with fail
 refine (aG (n.out _)).mono ?_
 rintro x B ⟨rfl,rfl⟩
 go_wp2_with fail
 refine (aG (o.out _)).mono ?_
 rintro x B ⟨rfl,rfl⟩
 go_wp2_with fail
 refine bodyPost_ret (v:=.agg #[.int .i64 (s:Int),.bool neg,.slice p l c,.int .i64 e]) (by simp [results,Tryz.results109,go_sem]) rfl ?_
 have d:Below w.heap.size w ((w.alloc (.cells #[.int .i64 (s:Int),.bool neg,.slice p l c,.int .i64 e] 85)).alloc (.cells #[.int .i64 (s:Int),.bool neg,.slice p l c,.int .i64 e] 85)):=((Below.refl _ _).alloc (Nat.le_refl _) _).trans (((Below.refl _ _).alloc (Nat.le_refl _) _).mono (by simp))
 rw [t.out];exact⟨neg,.slice p l c,M,e,rfl,z.out.below d,Or.inl ⟨rfl,rfl⟩,y.out,d⟩
theorem Iy (neg:Bool) (v:Value) (M:Nat) (e:Int) (N:Int) (k x:Nat) (u:Int) (w:World) (T:DN w v M) (hv:DV 0 neg M e N k) (hk:oe k) (h:U64 u) (hn:ah u=false) (hi:aY u=false) (F:Hid (u=(x:Int))) :
  Calls Tryz.prog 109 #[AV 0 neg v e,.int .u64 u] w (cj w v M (A.St.merge ⟨0,N⟩ (A.dB u)) (k+1)):=by
 have HN:=aa (aj u · h);have HI:=aa (aw u · h);rw [hn] at HN
 rw [hi] at HI
 have f:=fx F.out hn hi;have i:x<18446744073709551616:=by have:=h.2;rw [F.out] at this;omega
 have HO:=aa fun w=>eC x u w F h f
 obtain⟨W,q⟩:∃ W,A.St.merge ⟨0,N⟩ (A.dB u)=W:=⟨_,rfl⟩;have HT:Hid (W=⟨0,N+A.nE (x:Int)⟩):=by
  show _=_
  have h1:az u=true:=by
   unfold af at f
   unfold az;rw [F.out,dR];simp;omega
  have h2:A.dB u=⟨0,A.nE u⟩:=by unfold A.dB;rw [h1];rfl
  rw [<- q,h2,iz,if_pos rfl,F.out]
 rw [q];obtain⟨p,l,c,rfl⟩:=T.shape;have HD:=aa fun Q (hb:Below w.heap.size w Q)=>T.below hb
 have t:=aa hv;have H8:=aa (dL w 0 neg (.slice p l c) e);have HB:=aa (dh w 0 neg (.slice p l c) e);have U:=aa (iw w 0 neg (.slice p l c) e);have HX:=aa (And.intro f i);obtain⟨c0,c1,c2,c3,d0,d1,d2,d3,f0,f1,f2,f3⟩:=H8.out;clear h hn hi q T hv f i
 go_enter Tryz.func109,Tryz.ntmps109
 go_wp2_with fail
 refine (aG (HN.out _)).mono ?_
 rintro x Q ⟨rfl,rfl⟩
 go_wp2_with fail
 refine (aG (HI.out _)).mono ?_
 rintro x Q ⟨rfl,rfl⟩
 go_wp2_with fail
 go_region_with (first | ((go_at_call 74;refine (HO.out _).mono ?_;rintro r K ⟨nx,vx,X,I,rfl,o,Z,g⟩;obtain⟨px,lx,cx,rfl⟩:=o.shape;have z:=aa (HB.out.drew.trans (g.mono (show w.heap.size<=(boxA2 w 0 neg (.slice p l c) e).heap.size by rw [U.out];omega)));have J:=aa (Cells8.below (fT H8.out) g (show w.heap.size+1<(boxA2 w 0 neg (.slice p l c) e).heap.size by rw [U.out];omega));have L:w.heap.size+2<=K.heap.size:=(by have h9:=g.size;have h8:(boxA2 w 0 neg (.slice p l c) e).heap.size<=K.heap.size:=h9;rw [U.out] at h8;exact h8);have O:=aa o;have b:=aa Z;have g1:=J.out.c1;have g2:=J.out.c2;have g3:=J.out.c3;clear g o Z)) | ((go_at_call 73;obtain⟨E,Y⟩:∃ E,iQ M e X I=E:=⟨_,rfl⟩;obtain⟨n,m,kk,a⟩:=Oa (nm:=neg) (nx:=nx) t.out.lo t.out.hi (show -2148<=I by have:=b.out.lo;omega) (show I<=2000 by have:=b.out.hi;omega) (t.out.nd hk).1 (show nd X<=1000 by have:=dr b.out.lt;omega) Y;refine (po neg nx (.slice p l c) (.slice px lx cx) e I E M X n m K (HD.out _ z.out) O.out Y a.hn a.hm (by have:=a.hn1;omega) (by have:=a.hm1;omega) (by have:=t.out.nd hk;omega) (by have:=dr b.out.lt;omega) a.had a.hbd).mono ?_;rintro r w4 ⟨d,v',N',R,rfl,B,D,C,G,y⟩;obtain⟨p4,l4,c4,rfl⟩:=B.shape;have P:Hid (DV 0 d N' R (N+A.nE (x:Int)) (k+1)):=(by have hT:=CR (s:=0) (kk:=k+1) (kk':=k+1) a C G rfl (by rw [t.out.val];exact It t.out.bd (Is b.out)) (Nat.le_refl _);rw [t.out.val,Mr b.out HX.out.2 HX.out.1] at hT;exact hT);have S:=aa (z.out.trans (y.mono z.out.size));have j:=aa (J.out.below y (show w.heap.size+1<K.heap.size by omega));have V:=aa B;have H:=aa (cW D L);have k0:=j.out.d0;have k1:=j.out.d1;have k2:=j.out.d2;have k3:=j.out.d3;have l0:=j.out.f0;have l1:=j.out.f1;have l2:=j.out.f2;have l3:=j.out.f3;clear B D C G y a Y)))
 all_goals
  go_wp2_with fail
  refine bodyPost_ret (v:=.agg #[.int .i64 0,.bool d,.slice p4 l4 c4,.int .i64 R]) (by simp [results,Tryz.results109,go_sem,k0,k1,k2,k3]) rfl ?_
  rw [HT.out];exact⟨d,_,N',R,rfl,lG V.out H.out (by omega),Or.inr (cW H.out (by omega)),P.out,bT S.out (by omega)⟩
theorem QK (s:Nat) (neg:Bool) (v:Value) (M:Nat) (e:Int) (N:Int) (k x:Nat) (u:Int) (w:World) (d:DN w v M) (a:DV s neg M e N k) (g:oe k) (h:U64 u) (c:Hid (u=(x:Int))) :
  Calls Tryz.prog 109 #[AV (s:Int) neg v e,.int .u64 u] w (cj w v M (A.St.merge ⟨s,N⟩ (A.dB u)) (k+1)):=by
 cases b:ah u with
 | true=>exact Iw s neg v M e N (k+1) u w a.s3 h b
 | false=>
  cases hi:aY u with
  | true=>exact Ix s neg v M e N (k+1) u w a.s3 h b hi
  | false=>
   by_cases f:s=0
   ·subst f;exact Iy neg v M e N k x u w d a g h b hi c
   ·exact Ex s neg v M e N k x u w d a f h b hi c.out
end Go.Proofs.YtfdddijdjpijbaaGreat
namespace Go.Proofs.YtfdddijdjpijbaaGreat.A
open Go.RowKit
theorem Ms {o:Option Nat} {r:Nat} (h:Ag o r):dB (r:Int)=dB (cn o:Int):=by
 cases o with
 | some q=>rw [cR h,ar]
 | none=>
  have f:∀ {b:Nat},ah (b:Int)=true->dB (b:Int)=⟨3,0⟩:=fun {b} a=>by
   have c:az (b:Int)=false:=by
    unfold az;unfold ah at a
    rw [decide_eq_true_eq] at a
    rw [decide_eq_false_iff_not];omega
   unfold dB endN;rw [c,a];rfl
  rw [f (ik h).1,lu,f pI]
def bn (x y:Nat):St:=if az (x:Int)&&az (y:Int) then fF (x:Int) (y:Int) else dB (cn (floatBits .mul .f64 x y):Int)
theorem Iz (B b:Nat) (v:Value) (L:Nat) (a:St) (x y:Nat) (w:World) (h:AccAt w B b v L a) (A:B<=w.heap.size) (u:U64 (x:Int)) (s:U64 (y:Int)) (c:(az (x:Int)&&az (y:Int))=false) (C:L<=40000) :
  Calls Tryz.prog 89 #[.pointer (some ⟨b,0,none⟩),.float .f64 x,.float .f64 y] w fun r j=>r=.returned (.tuple #[])/\∃ q D,Did (w.drewN q) j B b v (max L 70+1) (a.merge (bn x y)) D:=by
 have m:=hideS (fu x x w rfl u);have f:=hideS (fu y y w rfl s);obtain⟨r,⟨q,F⟩,g⟩:=dM .mul (by simp) 27 x y w
 have d:r<18446744073709551616:=by
  cases p:floatBits .mul .f64 x y with
  | none=>rw [p] at g;exact (ik g).2
  | some z=>rw [p] at g;rw [cR g];exact jb (by simp) p
 have i:=hideS (Mp B b v L a r r (w.drewN q) (h.drewN q) A rfl (ag d) C);have t:Hid (a.merge (dB (r:Int))=a.merge (bn x y)):=by
  show _=_
  unfold bn;rw [c,if_neg (by decide),Ms g]
 rw [t.out] at i
 clear h u s g d t;cases k:az (x:Int)
 ·rw [k] at m
  clear c k
  go_enter Tryz.func89,Tryz.ntmps89
  go_wp2_with fail
  refine (turned m.out).mono ?_
  rintro e j ⟨rfl,rfl⟩
  go_wp2_with fail
  refine (turned f.out).mono ?_
  rintro e j ⟨rfl,rfl⟩
  go_wp2_with fail
  refine i.out.mono ?_
  rintro e E ⟨rfl,n,l⟩;have o:=hideS l;clear l
  go_wp2_with fail
  first | go_end0 | refine bodyPost_ret (results_none rfl _ _ _) rfl ?_
  exact⟨rfl,q,n,o.out⟩
 ·rw [k,Bool.true_and] at c
  rw [k] at m
  rw [c] at f
  clear c k
  go_enter Tryz.func89,Tryz.ntmps89
  go_wp2_with fail
  refine (turned m.out).mono ?_
  rintro e j ⟨rfl,rfl⟩
  go_wp2_with fail
  refine (turned f.out).mono ?_
  rintro e j ⟨rfl,rfl⟩
  go_wp2_with fail
  refine i.out.mono ?_
  rintro e E ⟨rfl,n,l⟩;have o:=hideS l;clear l
  go_wp2_with fail
  first | go_end0 | refine bodyPost_ret (results_none rfl _ _ _) rfl ?_
  exact⟨rfl,q,n,o.out⟩
theorem gH (B b:Nat) (v:Value) (L:Nat) (a:St) (x y:Nat) (w:World) (h:AccAt w B b v L a) (g:B<=w.heap.size) (j:U64 (x:Int)) (f:U64 (y:Int)) (i:L<=40000) :
  Calls Tryz.prog 89 #[.pointer (some ⟨b,0,none⟩),.float .f64 x,.float .f64 y] w fun r k=>r=.returned (.tuple #[])/\∃ q d,Did (w.drewN q) k B b v (max L 70+1) (a.merge (bn x y)) d:=by
 cases c:(az (x:Int)&&az (y:Int)) with
 | false=>exact Iz B b v L a x y w h g j f c i
 | true=>
  rw [Bool.and_eq_true] at c
  have e:bn x y=fF (x:Int) (y:Int):=by unfold bn;rw [c.1,c.2];rfl
  rw [e];exact (xA B b v L a x y x y w h g rfl j rfl f c.1 c.2 i).mono fun _ _ ⟨l,d,m⟩=>⟨l,0,d,m⟩
end Go.Proofs.YtfdddijdjpijbaaGreat.A
namespace Go.Proofs.YtfdddijdjpijbaaGreat
open Go.RowKit
theorem uU {w n m:World} {v:Value} {M k:Nat} {a:A.St} {s:Int} {neg:Bool} {e:Int} {r:Ending} (y:DN w v M) (f:Below w.heap.size w n) (p:w.heap.size+2<=n.heap.size) (h:cj n v M a k r m) (x:Cells8 n w s neg v e) :
  ∃ c j g c4 o,r=.returned (AV (a.s:Int) c (.slice j g c4) o)/\Cells8 m w s neg v e/\cj w v M a k (.returned (AV (a.s:Int) c (.slice j g c4) o)) (put4 m (w.heap.size+1) (a.s:Int) c (.slice j g c4) o):=by
 obtain⟨c,B,z,t,rfl,i,b,q,d⟩:=h;obtain⟨j,g,c4,rfl⟩:=i.shape;have l:Below w.heap.size w m:=f.trans (d.mono f.size);refine⟨c,j,g,c4,t,rfl,x.below d (by omega),c,_,z,t,rfl,?_,?_,q,bT l (by omega)⟩
 ·rcases b with⟨b,u⟩| b
  ·rw [b,u];exact y.below (bT l (by omega))
  ·exact lG i (cW b p) (by omega)
 ·rcases b with b | b
  ·exact Or.inl b
  ·exact Or.inr (cW b (by omega))
theorem Ey (s:Nat) (neg:Bool) (v:Value) (M:Nat) (e:Int) (N:Int) (k x y:Nat) (u t:Int) (w:World) (H:DN w v M) (hv:DV s neg M e N k) (hk:oe k) (h:U64 u) (R:U64 t) (O:Hid (u=(x:Int))) (K:Hid (t=(y:Int))) (d:(az u&&az t)=false) :
  Calls Tryz.prog 67 #[AV (s:Int) neg v e,.int .u64 u,.int .u64 t] w (cj w v M (A.St.merge ⟨s,N⟩ (A.bn x y)) (k+1)):=by
 have q:=aa (bZ u · h);have E:=aa (bZ t · R);obtain⟨z,F⟩:∃ z:Int,z=(cn (floatBits .mul .f64 x y):Int):=⟨_,rfl⟩;have HM:Hid (∀ w,Calls Tryz.prog 63 #[.int .u64 u,.int .u64 t] w fun e a=>e=.returned (.int .u64 z)/\Below w.heap.size w a):=fun w=>by rw [F];exact cU x y u t w O K h R
 obtain⟨G,m⟩:∃ G,A.St.merge ⟨s,N⟩ (A.bn x y)=G:=⟨_,rfl⟩;have g:U64 z:=by rw [F];exact ag (xc (by simp) _ _)
 have j:A.St.merge ⟨s,N⟩ (A.dB z)=G:=by
  rw [<- m];unfold A.bn;rw [<- O.out,<- K.out,d,if_neg (by decide),F]
 have Q:Hid (∀ a,Below w.heap.size w a->Calls Tryz.prog 109 #[AV (s:Int) neg v e,.int .u64 z] a (cj a v M G (k+1))):=fun a hb=>by
  rw [<- j];exact QK s neg v M e N k _ z a (H.below hb) hv hk g F
 rw [m];obtain⟨p,l,c,rfl⟩:=H.shape;have HD:=aa H;have S:=aa (dL w (s:Int) neg (.slice p l c) e);have Y:=aa (dh w (s:Int) neg (.slice p l c) e);have L:=aa (iw w (s:Int) neg (.slice p l c) e);obtain⟨c0,c1,c2,c3,d0,d1,d2,d3,f0,f1,f2,f3⟩:=S.out;obtain⟨J,o⟩:∃ J,az u=J:=⟨_,rfl⟩;obtain⟨P,n⟩:∃ P,az t=P:=⟨_,rfl⟩;rw [o] at q
 rw [n] at E
 rw [o,n] at d
 clear h R H F g m j O K o n;cases J<;>cases P
 all_goals first | (exact absurd d (by decide)) | skip
 all_goals
  clear d
  go_enter Tryz.func67,Tryz.ntmps67
  go_wp2_with (first | (go_at_call_of 41 (Value.int IntKind.u64 u);refine (aG (q.out _)).mono ?_;rintro x a ⟨rfl,rfl⟩) | (go_at_call_of 41 (Value.int IntKind.u64 t);refine (aG (E.out _)).mono ?_;rintro x a ⟨rfl,rfl⟩))
  go_region_with (first | ((go_at_call 63;refine (HM.out _).mono ?_;rintro x T ⟨rfl,b⟩;have D:=aa (Y.out.drew.trans (b.mono (show w.heap.size<=(boxA2 w (s:Int) neg (.slice p l c) e).heap.size by rw [L.out];omega)));have B:=aa (Cells8.below (fT S.out) b (show w.heap.size+1<(boxA2 w (s:Int) neg (.slice p l c) e).heap.size by rw [L.out];omega));have I:w.heap.size+2<=T.heap.size:=(by have h9:=b.size;have U:(boxA2 w (s:Int) neg (.slice p l c) e).heap.size<=T.heap.size:=h9;rw [L.out] at U;exact U);have g0:=B.out.c0;have g1:=B.out.c1;have g2:=B.out.c2;have g3:=B.out.c3;clear b)) | ((go_at_call 109;refine (Q.out _ D.out).mono ?_;intro r w4 i;obtain⟨C,p4,X,c4,Z,rfl,f,V⟩:=uU HD.out D.out I i B.out;have HE:=aa V;have k0:=f.d0;have k1:=f.d1;have W:=f.d2;have k3:=f.d3;have l0:=f.f0;have l1:=f.f1;have l2:=f.f2;have l3:=f.f3;clear i V f)))
  all_goals
   go_wp2_with fail
   refine bodyPost_ret (v:=.agg #[.int .i64 (G.s:Int),.bool C,.slice p4 X c4,.int .i64 Z]) (by simp [results,Tryz.results67,go_sem,k0,k1,W,k3]) rfl ?_
   exact HE.out
theorem AN (s:Nat) (neg:Bool) (v:Value) (M:Nat) (e:Int) (N:Int) (k x y:Nat) (u t:Int) (w:World) (n:DN w v M) (m:DV s neg M e N k) (f:s≠0) (h:U64 u) (B:U64 t) (q:u=(x:Int)) (r:t=(y:Int)) (b:az u=true) (d:az t=true) :
  Calls Tryz.prog 67 #[AV (s:Int) neg v e,.int .u64 u,.int .u64 t] w (cj w v M (A.St.merge ⟨s,N⟩ (A.bn x y)) (k+1)):=by
 have g:=aa (bZ u · h);have i:=aa (bZ t · B);rw [b] at g
 rw [d] at i
 obtain⟨o,a⟩:∃ o,A.St.merge ⟨s,N⟩ (A.bn x y)=o:=⟨_,rfl⟩;have D:Hid (o=⟨s,N⟩):=by
  show _=_
  rw [<- a];unfold A.bn;rw [<- q,<- r,b,d]
  show A.St.merge ⟨s,N⟩ (A.fF u t)=_
  unfold A.fF;rw [iz,if_neg f,m.none f]
 rw [a];obtain⟨p,l,c,rfl⟩:=n.shape;have F:=aa n;have E:=aa (m.mono (show k<=k+1 by omega))
 have H:(((s:Int) !=0))=true:=by simp;omega
 have z:((s:Int)==0)=false:=by simp;omega
 have C:=aa (dL w (s:Int) neg (.slice p l c) e);obtain⟨c0,c1,c2,c3,P,L,I,R,J,O,Q,K⟩:=C.out;clear h B a n m q r f b d
 go_enter Tryz.func67,Tryz.ntmps67
 go_wp2_with (first | (go_at_call_of 41 (Value.int IntKind.u64 u);refine (aG (g.out _)).mono ?_;rintro x G ⟨rfl,rfl⟩) | (go_at_call_of 41 (Value.int IntKind.u64 t);refine (aG (i.out _)).mono ?_;rintro x G ⟨rfl,rfl⟩))
 refine bodyPost_ret (v:=.agg #[.int .i64 (s:Int),.bool neg,.slice p l c,.int .i64 e]) (by simp [results,Tryz.results67,go_sem]) rfl ?_
 have j:Below w.heap.size w ((w.alloc (.cells #[.int .i64 (s:Int),.bool neg,.slice p l c,.int .i64 e] 85)).alloc (.cells #[.int .i64 (s:Int),.bool neg,.slice p l c,.int .i64 e] 85)):=((Below.refl _ _).alloc (Nat.le_refl _) _).trans (((Below.refl _ _).alloc (Nat.le_refl _) _).mono (by simp))
 rw [D.out];exact⟨neg,.slice p l c,M,e,rfl,F.out.below j,Or.inl ⟨rfl,rfl⟩,E.out,j⟩
def Three (a:World) (B:Nat) (neg:Bool) (v:Value) (e:Int):Prop:=
 a.cell? ⟨B,1,none⟩=some (.bool neg)/\a.cell? ⟨B,2,none⟩=some v/\a.cell? ⟨B,3,none⟩=some (.int .i64 e)
theorem Cells8.three {w1 w:World} {s:Int} {neg:Bool} {v:Value} {e:Int} (h:Cells8 w1 w s neg v e):Three w1 w.heap.size neg v e:=⟨h.c1,h.c2,h.c3⟩
theorem Ez {w:World} {B:Nat} {neg d:Bool} {v l:Value} {e m g:Int} (h:Three w B neg v e):Three (put4 w (B+1) g d l m) B neg v e:=by
 have k:B+1≠B:=by omega
 have f:∀ (i j:Nat) (w:World) (x:Value),(w.setCell ⟨B+1,i,none⟩ x).cell? ⟨B,j,none⟩=w.cell? ⟨B,j,none⟩:=fun i j w x=>World.cell?_setCell_far w ⟨B+1,i,none⟩ ⟨B,j,none⟩ x k
 obtain⟨a,b,c⟩:=h;refine⟨?_,?_,?_⟩
 ·rw [f,f,f,f];exact a
 ·rw [f,f,f,f];exact b
 ·rw [f,f,f,f];exact c
theorem Ql {E ex ey:Int} {N:Nat} (h:E=ex+ey\/(E=0/\N=0)) (c: -1074<=ex) (d:ex<=971) (a: -1074<=ey) (b:ey<=971): -2148<=E/\E<=2000:=by
 rcases h with h | ⟨h,_⟩ <;>omega
theorem EA {x y X Y:Nat} {nx u:Bool} {ex ey:Int} (m:OfR x nx X ex) (l:OfR y u Y ey) (g:x<18446744073709551616) (d:y<18446744073709551616) (q:af x) (r:af y) {neg N E} (w:sg neg N=sg nx X*sg u Y) (s:E=ex+ey\/(E=0/\N=0)) :
  sg neg N*((2^(E+2148).toNat:Nat):Int)=aA (x:Int)*aA (y:Int)*2^(aQ (x:Int)+aQ (y:Int)+2148).toNat/\-2148<=E/\E<=2000/\nd N<=1000/\∃ K,K=4200/\(sg neg N*((2^(E+2148).toNat:Nat):Int)).natAbs<=1*2^K:=by
 obtain⟨_,_,e,p⟩:=pR m g q;obtain⟨_,_,j,o⟩:=pR l d r;have n:N=X*Y:=by
  have:=congrArg Int.natAbs w;rw [Int.natAbs_mul,bF,bF,bF] at this;exact this
 have C:=m.lo;have G:=m.hi;have z:=l.lo;have D:=l.hi;have F:N<9007199254740992*9007199254740992:=by rw [n];exact Nat.mul_lt_mul'' m.lt l.lt
 have t:nd N<=1000:=Nat.le_trans (bL (k:=4) (by omega)) (by omega)
 obtain⟨H,B⟩:=Ql s C G z D;refine⟨?_,H,B,t,4200,rfl,?_⟩
 ·by_cases a:N=0
  ·rw [a,aT,Int.zero_mul];have:X=0\/Y=0:=by rw [n] at a;exact Nat.mul_eq_zero.1 a
   rcases this with c | c
   ·rw [p c,Int.zero_mul,Int.zero_mul]
   ·rw [o c,Int.mul_zero,Int.zero_mul]
  ·have i:X≠0:=fun c=>a (by rw [n,c,Nat.zero_mul])
   have f:Y≠0:=fun c=>a (by rw [n,c,Nat.mul_zero])
   have b:E=ex+ey:=by
    rcases s with h | ⟨_,h⟩
    ·exact h
    ·exact absurd h a
   rw [w,b,(e i).1,(e i).2,(j f).1,(j f).2,Int.natCast_pow];rfl
 ·obtain⟨K,A⟩:∃ K:Nat,K=4200:=⟨_,rfl⟩;rw [<- A,Int.natAbs_mul,bF,Int.natAbs_natCast,Nat.one_mul];have v:N*2^(E+2148).toNat<=2^106*2^(E+2148).toNat:=Nat.mul_le_mul_right _ (by omega)
  by_cases a:N=0
  ·rw [a,Nat.zero_mul];exact Nat.zero_le _
  ·have b:E=ex+ey:=by
    rcases s with h | ⟨_,h⟩
    ·exact h
    ·exact absurd h a
   rw [<- Nat.pow_add] at v
   exact Nat.le_trans v (Nat.pow_le_pow_right (by decide) (by omega))
theorem EB (neg:Bool) (v:Value) (M:Nat) (e:Int) (N:Int) (k x y:Nat) (u t:Int) (w:World) (hd:DN w v M) (hv:DV 0 neg M e N k) (hk:oe k) (h:U64 u) (h':U64 t) (hu:Hid (u=(x:Int))) (ht:Hid (t=(y:Int))) (B:az u=true) (q:az t=true) :
  Calls Tryz.prog 67 #[AV 0 neg v e,.int .u64 u,.int .u64 t] w (cj w v M (A.St.merge ⟨0,N⟩ (A.bn x y)) (k+1)):=by
 have W:=aa (bZ u · h);have al:=aa (bZ t · h');rw [B] at W
 rw [q] at al
 have nb:∀ {z:Nat} {b:Int},b=(z:Int)->az b=true->af z:=fun {z b} e o=>by
  unfold az at o;rw [e,dR,decide_eq_true_eq] at o;unfold af;omega
 have Q:=nb hu.out B;have U:=nb ht.out q;have I:x<18446744073709551616:=by have:=h.2;rw [hu.out] at this;omega
 have H:y<18446744073709551616:=by have:=h'.2;rw [ht.out] at this;omega
 have bz:=aa fun w=>eC x u w hu h Q
 have ca:=aa fun w=>eC y t w ht h' U
 obtain⟨tg,P⟩:∃ tg,A.St.merge ⟨0,N⟩ (A.bn x y)=tg:=⟨_,rfl⟩;have HT:Hid (tg=⟨0,N+aA (x:Int)*aA (y:Int)*2^(aQ (x:Int)+aQ (y:Int)+2148).toNat⟩):=by
  show _=_
  rw [<- P];unfold A.bn;rw [<- hu.out,<- ht.out,B,q]
  show A.St.merge ⟨0,N⟩ (A.fF u t)=_
  unfold A.fF;rw [iz,if_pos rfl]
 rw [P];obtain⟨p,l,c,rfl⟩:=hd.shape;have HD:=aa fun S (hb:Below w.heap.size w S)=>hd.below hb
 have R:=aa hv;have H8:=aa (dL w 0 neg (.slice p l c) e);have HB:=aa (dh w 0 neg (.slice p l c) e);have HZ:=aa (iw w 0 neg (.slice p l c) e);have G:=aa (And.intro (And.intro Q I) (And.intro U H));obtain⟨c0,c1,c2,c3,d0,d1,d2,d3,f0,f1,f2,f3⟩:=H8.out;have S0:Hid (Three (boxA2 w 0 neg (.slice p l c) e) w.heap.size neg (.slice p l c) e):=H8.out.three;clear h h' P hd hv Q I U H B q nb
 go_enter Tryz.func67,Tryz.ntmps67
 go_wp2_with (first | (go_at_call_of 41 (Value.int IntKind.u64 u);refine (aG (W.out _)).mono ?_;rintro x S ⟨rfl,rfl⟩) | (go_at_call_of 41 (Value.int IntKind.u64 t);refine (aG (al.out _)).mono ?_;rintro x S ⟨rfl,rfl⟩))
 go_region_held3 (fun S=>S.cell? ⟨w.heap.size,1,none⟩=some (.bool neg)/\S.cell? ⟨w.heap.size,2,none⟩=some (.slice p l c)/\S.cell? ⟨w.heap.size,3,none⟩=some (.int .i64 e)) (first | exact S0.out | exact S3.out | exact S4.out | exact S5.out | exact S6.out | exact Ez S6.out | go_keep) (first | ((go_at_call_of 74 (Value.int IntKind.u64 u);refine (bz.out _).mono ?_;rintro r w3 ⟨nx,vx,X,ex,rfl,K,hX,D⟩;obtain⟨px,lx,cx,rfl⟩:=K.shape;have ak:=aa (HB.out.drew.trans (D.mono (show w.heap.size<=(boxA2 w 0 neg (.slice p l c) e).heap.size by rw [HZ.out];omega)));have G8:=aa (Cells8.below (fT H8.out) D (show w.heap.size+1<(boxA2 w 0 neg (.slice p l c) e).heap.size by rw [HZ.out];omega));have bc:w.heap.size+2<=w3.heap.size:=(by have h9:=D.size;have h8:(boxA2 w 0 neg (.slice p l c) e).heap.size<=w3.heap.size:=h9;rw [HZ.out] at h8;exact h8);have bi:=aa K;have i:=aa hX;have S3:=aa G8.out.three;clear D K hX)) | ((go_at_call_of 74 (Value.int IntKind.u64 t);refine (ca.out _).mono ?_;rintro r w4 ⟨ny,vy,Y,ey,rfl,T,hY,g⟩;obtain⟨py,ly,cy,rfl⟩:=T.shape;have ai:=aa (ak.out.trans (g.mono ak.out.size));have I8:=aa (G8.out.below g (show w.heap.size+1<w3.heap.size by omega));have bv:w.heap.size+2<=w4.heap.size:=Nat.le_trans bc g.size;have Z:=aa (bi.out.below g);have bb:=aa T;have j:=aa hY;have S4:=aa I8.out.three;clear g T hY)) | ((go_at_call 100;refine (sK nx ny (.slice px lx cx) (.slice py ly cy) ex ey X Y w4 Z.out bb.out (by have:=dr i.out.lt;omega) (by have:=dr j.out.lt;omega) (by have:=i.out.lo;omega) (by have:=i.out.hi;omega) (by have:=j.out.lo;omega) (by have:=j.out.hi;omega)).mono ?_;rintro r w5 ⟨nt,vt,Tt,et,rfl,O,bh,ab,ad,C⟩;obtain⟨pt,lt,ct,rfl⟩:=O.shape;have d:=aa (EA i.out j.out G.out.1.2 G.out.2.2 G.out.1.1 G.out.2.1 ab ad);have V:=aa (ai.out.trans (C.mono ai.out.size));have J8:=aa (I8.out.below C (show w.heap.size+1<w4.heap.size by omega));have bk:w.heap.size+2<=w5.heap.size:=Nat.le_trans bv C.size;have bx:=aa O;have S5:=aa J8.out.three;clear C O bh ab ad)) | ((go_at_call 73;obtain⟨E,hE⟩:∃ E,iQ M e Tt et=E:=⟨_,rfl⟩;obtain⟨n,m,kk,a⟩:=Oa (nm:=neg) (nx:=nt) R.out.lo R.out.hi d.out.2.1 d.out.2.2.1 (R.out.nd hk).1 d.out.2.2.2.1 hE;refine (po neg nt (.slice p l c) (.slice pt lt ct) e et E M Tt n m w5 (HD.out _ V.out) bx.out hE a.hn a.hm (by have:=a.hn1;omega) (by have:=a.hm1;omega) (by have:=R.out.nd hk;omega) (by have:=d.out.2.2.2.1;omega) a.had a.hbd).mono ?_;rintro r w6 ⟨f,v',N',E',rfl,J,ac,ba,as,L⟩;obtain⟨p6,l6,c6,rfl⟩:=J.shape;have bo:Hid (DV 0 f N' E' (N+aA (x:Int)*aA (y:Int)*2^(aQ (x:Int)+aQ (y:Int)+2148).toNat) (k+1)):=(by have hT:=CR (s:=0) (kk:=k+1) (kk':=k+1) a ba as rfl (by rw [R.out.val];exact It R.out.bd d.out.2.2.2.2) (Nat.le_refl _);rw [R.out.val,d.out.1] at hT;exact hT);have bs:=aa (V.out.trans (L.mono V.out.size));have F:=aa (J8.out.below L (show w.heap.size+1<w5.heap.size by omega));have br:=aa J;have am:=aa (cW ac bk);have S6:=aa F.out.three;have k0:=F.out.d0;have k1:=F.out.d1;have k2:=F.out.d2;have k3:=F.out.d3;have l0:=F.out.f0;have l1:=F.out.f1;have l2:=F.out.f2;have l3:=F.out.f3;clear J ac ba as L a hE)))
 go_wp2_with fail
 refine bodyPost_ret (v:=.agg #[.int .i64 0,.bool f,.slice p6 l6 c6,.int .i64 E']) (by simp [results,Tryz.results67,go_sem,k0,k1,k2,k3]) rfl ?_
 rw [HT.out];exact⟨f,_,N',E',rfl,lG br.out am.out (by omega),Or.inr (cW am.out (by omega)),bo.out,bT bs.out (by omega)⟩
theorem Ob (s:Nat) (neg:Bool) (v:Value) (M:Nat) (e:Int) (N:Int) (k x y:Nat) (u t:Int) (w:World) (f:DN w v M) (b:DV s neg M e N k) (j:oe k) (h:U64 u) (g:U64 t) (c:Hid (u=(x:Int))) (d:Hid (t=(y:Int))) :
  Calls Tryz.prog 67 #[AV (s:Int) neg v e,.int .u64 u,.int .u64 t] w (cj w v M (A.St.merge ⟨s,N⟩ (A.bn x y)) (k+1)):=by
 cases a:(az u&&az t) with
 | false=>exact Ey s neg v M e N k x y u t w f b j h g c d a
 | true=>
  rw [Bool.and_eq_true] at a
  by_cases i:s=0
  ·subst i;exact EB neg v M e N k x y u t w f b j h g c d a.1 a.2
  ·exact AN s neg v M e N k x y u t w f b i h g c.out d.out a.1 a.2
theorem uW (N:Int):A.cO ⟨0,N⟩=valF N:=by unfold A.cO;rw [if_pos rfl]
theorem CS (N:Int):A.cO ⟨1,N⟩=9218868437227405312:=by unfold A.cO;dsimp only;rw [if_neg (by decide),if_pos rfl]
theorem CT (N:Int):A.cO ⟨2,N⟩=18442240474082181120:=by unfold A.cO;dsimp only;rw [if_neg (by decide),if_neg (by decide),if_pos rfl]
theorem CU (N:Int):A.cO ⟨3,N⟩=9221120237041090561:=by unfold A.cO;dsimp only;rw [if_neg (by decide),if_neg (by decide),if_neg (by decide)]
theorem EC {neg:Bool} {M k:Nat} {e N:Int} (f:DV 0 neg M e N k):bJ neg M e false=(valF N:Int):=by
 have a:=f.val;have m:=f.lo;unfold valF
 by_cases b:M=0
 ·rw [b,aT,Int.zero_mul] at a
  rw [b,<- a];unfold bJ aJ;rw [if_pos rfl,if_pos rfl];rfl
 ·obtain⟨q,j⟩:∃ q,(e+2148).toNat=q:=⟨_,rfl⟩;rw [j] at a
  obtain⟨g,l⟩:=ja (S:=sg neg M) q;have d:sg neg M≠0:=by
   intro c;have:=bF neg M;rw [c] at this;exact b this.symm
  rw [fw neg e b,<- a];unfold aJ;rw [if_neg (fun c=>d (l.1 c)),bg,bF]
  have i:=bf b q e;rw [show e - (q:Int)= -2148 by omega] at i
  rw [i];have h:=kC (neg:=neg) b;cases neg
  ·rw [if_neg (by decide),if_neg (fun c=>by have:=g.1 c;simp at h;omega)];omega
  ·rw [if_pos rfl,if_pos (g.2 (by simpa using h))];omega
theorem Oc (s:Nat) (neg:Bool) (v:Value) (M:Nat) (e:Int) (N:Int) (k:Nat) (w:World) (g:DN w v M) (f:DV s neg M e N k) (x:oe k) :
  Calls Tryz.prog 110 #[AV (s:Int) neg v e,.int .i64 1] w fun r j=>r=.returned (.int .u64 (A.cO ⟨s,N⟩:Int))/\Below w.heap.size w j:=by
 obtain⟨p,l,c,rfl⟩:=g.shape;obtain⟨b,a⟩:∃ b:Int,(A.cO ⟨s,N⟩:Int)=b:=⟨_,rfl⟩;rw [a];have u:=f.s3;have h:Hid (Below w.heap.size w (boxA w (s:Int) neg (.slice p l c) e)):=(Below.refl _ _).alloc (Nat.le_refl _) _;rcases (show s=0\/s=1\/s=2\/s=3 by omega) with rfl | rfl | rfl | rfl
 ·have o:=EC f;have d:(valF N:Int)=b:=by rw [<- a,uW]
  have m:Hid (Calls Tryz.prog 77 #[.agg #[.bool neg,.slice p l c,.int .i64 e]] (boxA w 0 neg (.slice p l c) e) fun r j=>r=.returned (.int .u64 b)/\Below (boxA w 0 neg (.slice p l c) e).heap.size (boxA w 0 neg (.slice p l c) e) j):=by
   rw [<- d,<- o];exact gv neg _ e M _ (g.below h.out) (by have:=f.nd x;omega) (by have:=f.lo;omega) (by have:=f.hi;omega)
  clear g f a o d
  go_enter Tryz.func110,Tryz.ntmps110
  go_wp2_with fail
  refine m.out.mono ?_
  rintro r y ⟨rfl,q⟩;have n:=aa (h.out.trans (q.mono h.out.size));clear q
  go_wp2_with fail
  go_ret
  exact⟨rfl,n.out⟩
 ·have d:(9218868437227405312:Int)=b:=by rw [<- a,CS];rfl
  have i:=aa d;clear g f a d
  go_enter Tryz.func110,Tryz.ntmps110
  go_wp2_with fail
  go_ret
  exact⟨bu i.out,h.out⟩
 ·have d:(18442240474082181120:Int)=b:=by rw [<- a,CT];rfl
  have i:=aa d;have t:=aa fun w=>fB 9218868437227405312 9218868437227405312 18442240474082181120 w rfl (by unfold U64;omega) rfl
  clear g f a d
  go_enter Tryz.func110,Tryz.ntmps110
  go_wp2_with fail
  refine (t.out _).mono ?_
  rintro r j ⟨rfl,rfl⟩
  go_wp2_with fail
  go_ret
  exact⟨bu i.out,h.out⟩
 ·have d:(9221120237041090561:Int)=b:=by rw [<- a,CU];rfl
  have i:=aa d;clear g f a d
  go_enter Tryz.func110,Tryz.ntmps110
  go_wp2_with fail
  go_ret
  exact⟨bu i.out,h.out⟩
theorem OJ (s:Nat) (neg:Bool) (v:Value) (M:Nat) (e:Int) (N:Int) (k:Nat) (w:World) (d:DN w v M) (h:DV s neg M e N k) (n:oe k) :
  Calls Tryz.prog 69 #[AV (s:Int) neg v e] w fun r m=>r=.returned (.int .u64 (A.cO ⟨s,N⟩:Int))/\Below w.heap.size w m:=by
 obtain⟨p,l,c,rfl⟩:=d.shape;have f:Hid (Below w.heap.size w (boxA w (s:Int) neg (.slice p l c) e)):=(Below.refl _ _).alloc (Nat.le_refl _) _;have i:=aa (Oc s neg (.slice p l c) M e N k _ (d.below f.out) h n);obtain⟨b,a⟩:∃ b:Int,(A.cO ⟨s,N⟩:Int)=b:=⟨_,rfl⟩;rw [a] at i ⊢
 clear d h a
 go_enter Tryz.func69,Tryz.ntmps69
 go_wp2_with fail
 refine i.out.mono ?_
 rintro r o ⟨rfl,j⟩;have g:=aa (f.out.trans (j.mono f.out.size));clear j
 go_wp2_with fail
 go_ret
 exact⟨rfl,g.out⟩
structure Held (w wr:World) (B:Nat) (a:A.St) (k:Nat):Prop where
 ex:∃ neg v M e,wr.heap[B]? =some (.cells #[.int .i64 (a.s:Int),.bool neg,v,.int .i64 e] 85 (0,0))/\DN wr v M/\From (B+1) v/\DV a.s neg M e a.N k
 bl:Below w.heap.size w wr
 lo:w.heap.size<=B
 lt:B<wr.heap.size
theorem IA (w:World):Held w (boxA w 0 false (.slice none 0 0) 0) w.heap.size ⟨0,0⟩ 0:=
 ⟨⟨false,.slice none 0 0,0,0,heap_alloc_new w _,Or.inl ⟨rfl,_,_,rfl⟩,gu _,DV.zero (by decide) 0⟩,(Below.refl _ _).alloc (Nat.le_refl _) _,Nat.le_refl _,by simp⟩
structure Held4 (wr:World) (B:Nat) (s:Int) (neg:Bool) (v:Value) (e:Int):Prop where
 c0:wr.cell? ⟨B,0,none⟩=some (.int .i64 s)
 c1:wr.cell? ⟨B,1,none⟩=some (.bool neg)
 c2:wr.cell? ⟨B,2,none⟩=some v
 c3:wr.cell? ⟨B,3,none⟩=some (.int .i64 e)
 f0:wr.frozen? ⟨B,0,none⟩=false
 f1:wr.frozen? ⟨B,1,none⟩=false
 f2:wr.frozen? ⟨B,2,none⟩=false
 f3:wr.frozen? ⟨B,3,none⟩=false
theorem dX {wr:World} {B:Nat} {s:Int} {neg:Bool} {v:Value} {e:Int} (a:wr.heap[B]? =some (.cells #[.int .i64 s,.bool neg,v,.int .i64 e] 85 (0,0))):Held4 wr B s neg v e:=by
 refine⟨?_,?_,?_,?_,?_,?_,?_,?_⟩
 ·simp [World.cell?,a]
 ·simp [World.cell?,a]
 ·simp [World.cell?,a]
 ·simp [World.cell?,a]
 ·simp [World.frozen?,a]
 ·simp [World.frozen?,a]
 ·simp [World.frozen?,a]
 ·simp [World.frozen?,a]
theorem mH {w:World} {B:Nat} {s b:Int} {neg a:Bool} {v c:Value} {e d:Int} (f:w.heap[B]? =some (.cells #[.int .i64 s,.bool neg,v,.int .i64 e] 85 (0,0))):(put4 w B b a c d).heap[B]? =some (.cells #[.int .i64 b,.bool a,c,.int .i64 d] 85 (0,0)):=by
 have g:=heap_setCell_same w B 0 _ _ (.int .i64 b) f;have j:=heap_setCell_same _ B 1 _ _ (.bool a) g;have h:=heap_setCell_same _ B 2 _ _ c j;have i:=heap_setCell_same _ B 3 _ _ (.int .i64 d) h;rw [i];rfl
theorem xE {w wr w1:World} {B k:Nat} {s:Int} {neg:Bool} {v:Value} {M:Nat} {e:Int} {a:A.St} {r:Ending} (z:wr.heap[B]? =some (.cells #[.int .i64 s,.bool neg,v,.int .i64 e] 85 (0,0))) (x:From (B+1) v) (i:Below w.heap.size w wr) (g:w.heap.size<=B) (m:B<wr.heap.size) (h:cj wr v M a k r w1) :
  ∃ b p l c n,r=.returned (AV (a.s:Int) b (.slice p l c) n)/\Held4 w1 B s neg v e/\Held w (put4 w1 B (a.s:Int) b (.slice p l c) n) B a k:=by
 obtain⟨b,C,y,n,rfl,u,j,o,d⟩:=h;obtain⟨p,l,c,rfl⟩:=u.shape;have f:w1.heap[B]? =some (.cells #[.int .i64 s,.bool neg,v,.int .i64 e] 85 (0,0)):=by rw [d.block B m];exact z
 have t:From (B+1) (.slice p l c):=by
  rcases j with⟨j,_⟩| j
  ·rw [j];exact x
  ·exact cW j m
 have q:Below w.heap.size w w1:=i.trans (d.mono i.size);refine⟨b,p,l,c,n,rfl,dX f,⟨b,_,y,n,mH f,lG u t (by omega),t,o⟩,bT q g,g,?_⟩
 have:=d.size;simp;omega
theorem IB (a:A.St):(⟨a.s,a.N⟩:A.St)=a:=rfl
theorem ID (q:Nat) (m:Nat) (e:q≠0) (f:m<=1):(2*q+m).log2=q.log2+1:=by
 have a:=Nat.log2_self_le e;have b:q<2^(q.log2+1):=Nat.lt_log2_self;have c:(2*q+m).log2<q.log2+1+1:=(Nat.log2_lt (by omega)).2 (by rw [Nat.pow_succ];omega)
 have d:q.log2+1<=(2*q+m).log2:=(Nat.le_log2 (by omega)).2 (by rw [Nat.pow_succ];omega)
 omega
theorem IE {q:Nat} (more:Bool):nearR (mant q more) (kc q)=nearR (2*q+more.toNat) (-2149):=by
 have l:more.toNat<=1:=by cases more<;>decide
 by_cases g:q.log2<61
 ·have p:q<2^61:=by
   by_cases d:q=0
   ·rw [d];decide
   ·exact (Nat.log2_lt d).1 g
  have s:=LS q more;have i:kc q< -1139:=by unfold kc;split<;>omega
  rw [iW (by omega) i,iW (by omega) (by decide)]
 ·have d:q≠0:=fun c=>by rw [c] at g;exact g (by decide)
  obtain⟨t,h⟩:∃ t,q.log2=t+61:=⟨q.log2 - 61,by omega⟩
  have j:mant q more=bK (2*q+more.toNat) (t+1) false:=by
   unfold mant bK;rw [if_neg d,h,show t+61+3=64+t by omega,Nat.pow_add 2 64 t,Nat.mul_comm q,Nat.mul_mod_mul_left,Nat.mul_div_mul_left _ _ (Nat.two_pow_pos 64),show (2:Nat)^(t+1)=2*2^t by rw [Nat.pow_succ,Nat.mul_comm]]
   have n:(2*q+more.toNat) / (2*2^t)=q / 2^t:=by
    rw [<- Nat.div_div_eq_div_mul]
    congr 1
    omega
   have o:(2*q+more.toNat) % (2*2^t)=2*(q % 2^t)+more.toNat:=by
    have e:=Nat.div_add_mod q (2^t);have m:q % 2^t<2^t:=Nat.mod_lt _ (Nat.two_pow_pos t);generalize q / 2^t=Q at *
    generalize q % 2^t=R at *
    generalize 2^t=T at *
    have f:2*q+more.toNat=2*R+more.toNat+2*T*Q:=by rw [<- e,Nat.mul_add,Nat.mul_assoc];omega
    rw [f,Nat.add_mul_mod_self_left,Nat.mod_eq_of_lt (by omega)]
   rw [n,o];have r:=Nat.two_pow_pos 64;have k:(2^64*(q % 2^t)=0/\more=false)↔(2*(q % 2^t)+more.toNat=0/\(false:Bool)=false):=by
    constructor
    ·rintro⟨a,b⟩;rcases Nat.mul_eq_zero.1 a with c | c
     ·omega
     ·rw [c,b];exact⟨rfl,rfl⟩
    ·rintro⟨a,_⟩;have c:q % 2^t=0:=by omega
     refine⟨by rw [c,Nat.mul_zero],?_⟩
     cases more
     ·rfl
     ·rw [c] at a;exact absurd a (by decide)
   simp only [k]
  have f:kc q=((t+1:Nat):Int)+ -2149:=by unfold kc;rw [if_neg d,h];omega
  rw [j,f,lC (by omega) (by rw [ID q _ d l,h];omega)]
theorem IF {q:Nat} {more:Bool} (h:q≠0\/more=true):mant q more≠0:=by
 unfold mant
 by_cases a:q=0
 ·rw [if_pos a];rcases h with h | h
  ·exact absurd a h
  ·rw [h];decide
 ·rw [if_neg a];have e:=Nat.two_pow_pos 64;have b:q*2^64≠0:=fun c=>by
   rcases Nat.mul_eq_zero.1 c with c | c<;>omega
  have d:q.log2+3<=(q*2^64).log2:=by rw [de a];omega
  exact (cT more d b).2
theorem mI (N:Int) (d:Nat):A.gG N d=if N=0 then 0 else wrd (decide (N<0)) (nearR (aP N.natAbs d 0) (-2149)):=by
 unfold A.gG;have f:aP N.natAbs d 0=2*(N.natAbs / d)+(decide (N.natAbs % d≠0)).toNat:=by
  unfold aP;rw [Nat.pow_zero,Nat.mul_one]
  by_cases a:N.natAbs % d=0<;>simp [a]
 rw [f,<- IE]
 by_cases b:N=0
 ·rw [if_pos b,b];have:(0:Int).natAbs=0:=rfl;rw [this,Nat.zero_div,Nat.zero_mod]
  rfl
 ·rw [if_neg b];have h:mant (N.natAbs / d) (decide (N.natAbs % d≠0))≠0:=by
   apply IF
   by_cases a:N.natAbs % d=0
   ·refine Or.inl (fun c=>?_)
    have:=Nat.div_add_mod N.natAbs d;rw [c,a,Nat.mul_zero] at this
    omega
   ·exact Or.inr (by simp [a])
  generalize mant (N.natAbs / d) (decide (N.natAbs % d≠0))=m at *
  generalize kc (N.natAbs / d)=g at *
  unfold aJ sgM wrd
  by_cases e:N<0
  ·simp only [e,decide_true,if_true];rw [if_neg (by omega),if_pos (by omega),Int.natAbs_neg,Int.natAbs_natCast]
  ·simp only [e,decide_false,Bool.false_eq_true,if_false];rw [if_neg (by omega),if_neg (by omega),Int.natAbs_natCast]
theorem pS (nx e:Bool) (b h:Value) (ex ey:Int) (w:World) (i:DN w b 0) :
  Calls Tryz.prog 61 #[.agg #[.bool nx,b,.int .i64 ex],.agg #[.bool e,h,.int .i64 ey]] w fun x d=>x=.returned (.int .u64 0)/\Below w.heap.size w d:=by
 have a:Hid (Below w.heap.size w (boxN (boxN w nx b ex) e h ey)):=(aE w nx b ex).trans ((aE (boxN w nx b ex) e h ey).mono (by simp))
 have f:=aa fun d (j:Below w.heap.size w d)=>aZ nx b ex 0 true d (i.below j) rfl
 clear i
 go_enter Tryz.func61,Tryz.ntmps61
 go_wp2_with fail
 refine (f.out _ a.out).mono ?_
 rintro x k ⟨rfl,c⟩;have g:=aa (a.out.trans (c.mono a.out.size));clear c
 go_wp2_with fail
 go_ret
 exact⟨rfl,g.out⟩
theorem kJ (w:World) (s:Int) (neg:Bool) (v:Value) (e:Int):Three (boxA w s neg v e) w.heap.size neg v e:=⟨by simp,by simp,by simp⟩
theorem nG {w1 d:World} {B b:Nat} {neg:Bool} {v:Value} {e:Int} (h:Three w1 B neg v e) (c:Below b w1 d) (a:B<b):Three d B neg v e:=
 ⟨(c.cell (p:=⟨B,1,none⟩) a).trans h.1,(c.cell (p:=⟨B,2,none⟩) a).trans h.2.1,(c.cell (p:=⟨B,3,none⟩) a).trans h.2.2⟩
theorem EF {neg:Bool} {M k n:Nat} {e N:Int} (m:DV 0 neg M e N k) (b:M≠0) (hn:0<n) {j:Nat} (x:max 0 (70 - (bl M:Int)+(bl n:Int))=(j:Int)) :
  bJ neg (M*2^j / n) (e - j - 0) (decide (0<nd (M*2^j % n)))=(A.gG N n:Int):=by
 have z:=eA b;have y:=eA (show n≠0 by omega)
 have r:=jd b (show n≠0 by omega) (k:=j) (by omega)
 rw [kG _ _ _ r.1,mI];have a:=m.val;have u:=m.lo;obtain⟨q,s⟩:∃ q:Nat,(e+2148).toNat=q:=⟨_,rfl⟩;rw [s] at a
 obtain⟨o,v⟩:=ja (S:=sg neg M) q;have h:sg neg M≠0:=by
  intro c;have:=bF neg M;rw [c] at this;exact b this.symm
 have g:N≠0:=fun c=>h (v.1 (a.trans c))
 have i:N.natAbs=M*2^q:=by rw [<- a,bg,bF]
 have p:=kC (neg:=neg) b;have d:decide (N<0)=neg:=by
  cases neg
  ·exact decide_eq_false (fun c=>by rw [<- a] at c;have:=o.1 c;simp at p;omega)
  ·exact decide_eq_true (by rw [<- a];exact o.2 (by simpa using p))
 have t:2*(M*2^j / n)+(if decide (0<nd (M*2^j % n))=true then 1 else 0)=aP M n j:=by
  unfold aP
  congr 1
  by_cases l:M*2^j % n=0
  ·rw [l];rfl
  ·have:=dm l;rw [if_neg l,if_pos (decide_eq_true (show 0<nd (M*2^j % n) from this))]
 rw [if_neg g,d,i,t,IC,Nat.add_zero];have w:nearR (aP M n j) (e - (j:Int) - 0 - 1)=nearR (aP M n q) (-2149):=by
  rw [show e - (j:Int) - 0 - 1=(e - 1) - (j:Int) by omega,show (-2149:Int)=(e - 1) - (q:Int) by omega]
  by_cases f:j<=q
  ·exact jc hn f r.2
  ·exact (uX b hn (by omega) (by omega)).symm
 rw [w];unfold gB wrd;cases neg<;>simp
theorem AO (neg:Bool) (v:Value) (M:Nat) (e:Int) (N:Int) (k n:Nat) (w:World) (t:DN w v M) (o:DV 0 neg M e N k) (G:oe k) (hn:2<=n) (u:n<=9223372036854775807) :
  Calls Tryz.prog 110 #[AV 0 neg v e,.int .i64 (n:Int)] w fun r i=>r=.returned (.int .u64 (A.gG N n:Int))/\Below w.heap.size w i:=by
 obtain⟨p,l,c,rfl⟩:=t.shape;obtain⟨h,a⟩:∃ h:Int,(A.gG N n:Int)=h:=⟨_,rfl⟩;rw [a];have H:Hid (Below w.heap.size w (boxA w 0 neg (.slice p l c) e)):=(Below.refl _ _).alloc (Nat.le_refl _) _;have C:=aa fun b=>jI (n:Int) b (by omega) (by omega)
 unfold dU at C
 rw [show decide ((n:Int)<0)=false from decide_eq_false (by omega),Int.natAbs_natCast] at C
 have P:Hid (∀ b q,Below w.heap.size w b->DN b q n->Calls Tryz.prog 61 #[.agg #[.bool neg,.slice p l c,.int .i64 e],.agg #[.bool false,q,.int .i64 0]] b fun x i=>x=.returned (.int .u64 h)/\Below b.heap.size b i):=fun b q I J=>by
  rw [<- a]
  by_cases s:M=0
  ·have Q:N=0:=by have:=o.val;rw [s,aT,Int.zero_mul] at this;exact this.symm
   have:=pS neg false (.slice p l c) q e 0 b (by have:=t.below I;rw [s] at this;exact this)
   rw [mI,if_pos Q];exact this
  ·obtain⟨j,D⟩:∃ j:Nat,max 0 (70 - (bl M:Int)+(bl n:Int))=(j:Int):=⟨(max 0 (70 - (bl M:Int)+(bl n:Int))).toNat,by omega⟩
   exact je neg false _ (.slice p l c) q e 0 _ M n j _ b (t.below I) J s (by omega) (by have:=(o.nd G).2;omega) (by have:=bL (N:=n) (k:=2) (by omega);omega) (by have:=o.lo;omega) (by have:=o.hi;omega) (by omega) (by omega) D rfl rfl (EF o s (by omega) D)
 have K:((n:Int)==1)=false:=beq_false_of_ne (by omega)
 clear t o a G hn u
 go_enter Tryz.func110,Tryz.ntmps110
 have F:=aa (kJ w 0 neg (.slice p l c) e)
 go_wp2_with fail
 go_region_held3 (fun i=>i.cell? ⟨w.heap.size,1,none⟩=some (.bool neg)/\i.cell? ⟨w.heap.size,2,none⟩=some (.slice p l c)/\i.cell? ⟨w.heap.size,3,none⟩=some (.int .i64 e)) (first | exact F.out | exact E.out | exact L.out | go_keep) (first | ((go_at_call 62;refine (C.out _).mono ?_;rintro r O ⟨q,rfl,m,d⟩;obtain⟨T,U,R,rfl⟩:=m.shape;have f:=aa (H.out.drew.trans (d.mono H.out.size));have E:=aa (nG (w1:=(boxA w 0 neg (.slice p l c) e).drew) F.out d (show w.heap.size<(boxA w 0 neg (.slice p l c) e).heap.size by simp));have z:Hid (w.heap.size<O.heap.size):=(Nat.lt_of_lt_of_le (show w.heap.size<(boxA w 0 neg (.slice p l c) e).heap.size by simp) d.size);have y:=aa m;clear d m)) | ((go_at_call 61;refine (P.out _ _ f.out y.out).mono ?_;rintro r S ⟨rfl,g⟩;have B:=aa (f.out.trans (g.mono f.out.size));have L:=aa (nG E.out g z.out);clear g)))
 all_goals
  go_wp2_with fail
  go_ret
  exact⟨rfl,B.out⟩
def aR (a:A.St) (n:Nat):Nat:=if a.s=0 then A.gG a.N n else A.cO a
theorem AP (s:Nat) (neg:Bool) (v:Value) (M:Nat) (e:Int) (N n:Int) (w:World) (g:DN w v M) (k:s=1\/s=2\/s=3) :
  Calls Tryz.prog 110 #[AV (s:Int) neg v e,.int .i64 n] w fun r i=>r=.returned (.int .u64 (A.cO ⟨s,N⟩:Int))/\Below w.heap.size w i:=by
 obtain⟨p,l,c,rfl⟩:=g.shape;obtain⟨b,a⟩:∃ b:Int,(A.cO ⟨s,N⟩:Int)=b:=⟨_,rfl⟩;rw [a];have h:Hid (Below w.heap.size w (boxA w (s:Int) neg (.slice p l c) e)):=(Below.refl _ _).alloc (Nat.le_refl _) _;rcases k with rfl | rfl | rfl
 ·have d:(9218868437227405312:Int)=b:=by rw [<- a,CS];rfl
  have f:=aa d;clear g a d
  go_enter Tryz.func110,Tryz.ntmps110
  go_wp2_with fail
  go_ret
  exact⟨bu f.out,h.out⟩
 ·have d:(18442240474082181120:Int)=b:=by rw [<- a,CT];rfl
  have f:=aa d;have j:=aa fun w=>fB 9218868437227405312 9218868437227405312 18442240474082181120 w rfl (by unfold U64;omega) rfl
  clear g a d
  go_enter Tryz.func110,Tryz.ntmps110
  go_wp2_with fail
  refine (j.out _).mono ?_
  rintro r i ⟨rfl,rfl⟩
  go_wp2_with fail
  go_ret
  exact⟨bu f.out,h.out⟩
 ·have d:(9221120237041090561:Int)=b:=by rw [<- a,CU];rfl
  have f:=aa d;clear g a d
  go_enter Tryz.func110,Tryz.ntmps110
  go_wp2_with fail
  go_ret
  exact⟨bu f.out,h.out⟩
theorem OK (s:Nat) (neg:Bool) (v:Value) (M:Nat) (e:Int) (N:Int) (k n:Nat) (w:World) (d:DN w v M) (a:DV s neg M e N k) (f:oe k) (hn:1<=n) (b:n<=9223372036854775807) :
  Calls Tryz.prog 110 #[AV (s:Int) neg v e,.int .i64 (n:Int)] w fun r h=>r=.returned (.int .u64 (aR ⟨s,N⟩ n:Int))/\Below w.heap.size w h:=by
 have g:=a.s3;unfold aR;dsimp only
 by_cases c:s=0
 ·rw [if_pos c];subst c
  by_cases i:n=1
  ·subst i;rw [A.Ev];have:=Oc 0 neg v M e N k w d a f;rw [uW] at this
   exact this
  ·exact AO neg v M e N k n w d a f (by omega) b
 ·rw [if_neg c];exact AP s neg v M e N (n:Int) w d (by omega)
end Go.Proofs.YtfdddijdjpijbaaGreat
