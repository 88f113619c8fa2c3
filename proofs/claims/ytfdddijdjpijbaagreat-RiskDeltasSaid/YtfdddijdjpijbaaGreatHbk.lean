/-  -/
import Derived.Test.YtfdddijdjpijbaaGreatHax
import Derived.Test.YtfdddijdjpijbaaGreatHbj
import Derived.Test.YtfdddijdjpijbaaGreatHar
import Derived.Test.YtfdddijdjpijbaaGreatHay
import Derived.Test.YtfdddijdjpijbaaGreatHaz
set_option maxHeartbeats 3200000
set_option maxRecDepth 10000
namespace Go.Proofs.YtfdddijdjpijbaaGreat
open Go.RowKit
abbrev AV (s:Int) (neg:Bool) (v:Value) (e:Int):Value:=.agg #[.int .i64 s,.bool neg,v,.int .i64 e]
abbrev boxA (w:World) (s:Int) (neg:Bool) (v:Value) (e:Int):World:=w.alloc (.cells #[.int .i64 s,.bool neg,v,.int .i64 e] 85)
abbrev boxA2 (w:World) (s:Int) (neg:Bool) (v:Value) (e:Int):World:=boxA (boxA w s neg v e) 0 false (.slice none 0 0) 0
theorem iF (w:World) (s:Int) (neg:Bool) (v:Value) (e:Int):(boxA2 w s neg v e).heap.size=w.heap.size+2:=by simp
theorem dl (w:World) (s:Int) (neg:Bool) (v:Value) (e:Int):Below w.heap.size w (boxA2 w s neg v e):=
 ((Below.refl _ _).alloc (Nat.le_refl _) _).trans (((Below.refl _ _).alloc (Nat.le_refl _) _).mono (by simp))
structure Cells8 (w' w:World) (s:Int) (neg:Bool) (v:Value) (e:Int):Prop where
 c0:w'.cell? ⟨w.heap.size,0,none⟩=some (.int .i64 s)
 c1:w'.cell? ⟨w.heap.size,1,none⟩=some (.bool neg)
 c2:w'.cell? ⟨w.heap.size,2,none⟩=some v
 c3:w'.cell? ⟨w.heap.size,3,none⟩=some (.int .i64 e)
 d0:w'.cell? ⟨w.heap.size+1,0,none⟩=some (.int .i64 0)
 d1:w'.cell? ⟨w.heap.size+1,1,none⟩=some (.bool false)
 d2:w'.cell? ⟨w.heap.size+1,2,none⟩=some (.slice none 0 0)
 d3:w'.cell? ⟨w.heap.size+1,3,none⟩=some (.int .i64 0)
 f0:w'.frozen? ⟨w.heap.size+1,0,none⟩=false
 f1:w'.frozen? ⟨w.heap.size+1,1,none⟩=false
 f2:w'.frozen? ⟨w.heap.size+1,2,none⟩=false
 f3:w'.frozen? ⟨w.heap.size+1,3,none⟩=false
theorem dT (w:World) (s:Int) (neg:Bool) (v:Value) (e:Int):Cells8 (boxA2 w s neg v e) w s neg v e:=by
 have c:Below (boxA w s neg v e).heap.size (boxA w s neg v e) (boxA2 w s neg v e):=(Below.refl _ _).alloc (Nat.le_refl _) _;have b:w.heap.size<(boxA w s neg v e).heap.size:=by simp
 have a:w.heap.size+1=(boxA w s neg v e).heap.size:=by simp
 refine⟨?_,?_,?_,?_,?_,?_,?_,?_,?_,?_,?_,?_⟩
 ·rw [c.cell (p:=⟨w.heap.size,0,none⟩) b];simp
 ·rw [c.cell (p:=⟨w.heap.size,1,none⟩) b];simp
 ·rw [c.cell (p:=⟨w.heap.size,2,none⟩) b];simp
 ·rw [c.cell (p:=⟨w.heap.size,3,none⟩) b];simp
 ·rw [a];simp
 ·rw [a];simp
 ·rw [a];simp
 ·rw [a];simp
 ·rw [a];exact World.frozen?_alloc_new _ _ _ _
 ·rw [a];exact World.frozen?_alloc_new _ _ _ _
 ·rw [a];exact World.frozen?_alloc_new _ _ _ _
 ·rw [a];exact World.frozen?_alloc_new _ _ _ _
theorem Cells8.below {w1 f w:World} {s:Int} {neg:Bool} {v:Value} {e:Int} {b:Nat} (h:Cells8 w1 w s neg v e) (a:Below b w1 f) (c:w.heap.size+1<b):Cells8 f w s neg v e:=by
 have d:w.heap.size<b:=by omega
 exact⟨(a.cell (p:=⟨w.heap.size,0,none⟩) d).trans h.c0,(a.cell (p:=⟨w.heap.size,1,none⟩) d).trans h.c1,(a.cell (p:=⟨w.heap.size,2,none⟩) d).trans h.c2,(a.cell (p:=⟨w.heap.size,3,none⟩) d).trans h.c3,
  (a.cell (p:=⟨w.heap.size+1,0,none⟩) c).trans h.d0,(a.cell (p:=⟨w.heap.size+1,1,none⟩) c).trans h.d1,(a.cell (p:=⟨w.heap.size+1,2,none⟩) c).trans h.d2,(a.cell (p:=⟨w.heap.size+1,3,none⟩) c).trans h.d3,
  (a.frozen (p:=⟨w.heap.size+1,0,none⟩) c).trans h.f0,(a.frozen (p:=⟨w.heap.size+1,1,none⟩) c).trans h.f1,(a.frozen (p:=⟨w.heap.size+1,2,none⟩) c).trans h.f2,(a.frozen (p:=⟨w.heap.size+1,3,none⟩) c).trans h.f3⟩
abbrev put4 (w:World) (b:Nat) (s:Int) (neg:Bool) (v:Value) (e:Int):World:=
 (((w.setCell ⟨b,0,none⟩ (.int .i64 s)).setCell ⟨b,1,none⟩ (.bool neg)).setCell ⟨b,2,none⟩ v).setCell ⟨b,3,none⟩ (.int .i64 e)
theorem bX {w w1:World} {B b:Nat} {s:Int} {neg:Bool} {v:Value} {e:Int} (h:Below B w w1) (a:B<=b):Below B w (put4 w1 b s neg v e):=
 (((h.setCell (p:=⟨b,0,none⟩) a _).setCell (p:=⟨b,1,none⟩) a _).setCell (p:=⟨b,2,none⟩) a _).setCell (p:=⟨b,3,none⟩) a _
theorem lJ {w:World} {b B M:Nat} {s:Int} {neg:Bool} {v u:Value} {e:Int} (h:DN w u M) (c:From B u) (d:b<B):DN (put4 w b s neg v e) u M:=
 (((h.set c (a:=⟨b,0,none⟩) d _).set c (a:=⟨b,1,none⟩) d _).set c (a:=⟨b,2,none⟩) d _).set c (a:=⟨b,3,none⟩) d _
theorem Pm (s:Nat) (t:Nat) (b:s<=3) (a:t=1\/t=2):A.mt s t=if s=0\/s=t then t else 3:=by
 unfold A.mt;rcases a with rfl | rfl
 all_goals rcases (show s=0\/s=1\/s=2\/s=3 by omega) with rfl | rfl | rfl | rfl<;>decide
theorem MV (s:Nat) (neg b:Bool) (v:Value) (e:Int) (w:World) (c:s<=3) :
  Calls Tryz.prog 150 #[AV (s:Int) neg v e,.bool b] w fun x a=>x=.returned (AV (A.mt s (if b then 2 else 1):Nat) false (.slice none 0 0) 0)/\Below w.heap.size w a:=by
 cases b
 all_goals
  rcases (show s=0\/s=1\/s=2\/s=3 by omega) with rfl | rfl | rfl | rfl
  all_goals
   go_enter Tryz.func150,Tryz.ntmps150
   go_wp2_with fail
   refine bodyPost_ret (v:=.agg #[.int .i64 _,.bool false,.slice none 0 0,.int .i64 0]) (by simp [results,Tryz.results150,go_sem];rfl) rfl ⟨rfl,?_⟩
   exact ((Below.refl _ _).alloc (Nat.le_refl _) _).trans (((Below.refl _ _).alloc (Nat.le_refl _) _).mono (by simp))
structure DV (s:Nat) (neg:Bool) (M:Nat) (e N:Int) (k:Nat):Prop where
 s3:s<=3
 lo: -2148<=e
 hi:e<=2000
 val:sg neg M*((2^(e+2148).toNat:Nat):Int)=N
 none:s≠0->N=0
 bd:∃ K,K=4200/\N.natAbs<=k*2^K
theorem DV.zero {s:Nat} (h:s<=3) (k:Nat):DV s false 0 0 0 k:=
 ⟨h,by decide,by decide,by rw [aT,Int.zero_mul],fun _=>rfl,4200,rfl,Nat.zero_le _⟩
theorem DV.mono {s:Nat} {neg:Bool} {M:Nat} {e N:Int} {k a:Nat} (h:DV s neg M e N k) (d:k<=a):DV s neg M e N a:=by
 obtain⟨K,b,c⟩:=h.bd;exact⟨h.s3,h.lo,h.hi,h.val,h.none,K,b,Nat.le_trans c (Nat.mul_le_mul_right _ d)⟩
theorem DV.le {s:Nat} {neg:Bool} {M:Nat} {e N:Int} {k:Nat} (h:DV s neg M e N k):M<=N.natAbs:=by
 rw [<- h.val,Int.natAbs_mul,bH,Int.natAbs_natCast];exact Nat.le_mul_of_pos_right _ (Nat.two_pow_pos _)
def oB (k:Nat):Prop:=∃ j,j=150/\k<=2^j
theorem oS {k:Nat} (h:k<=1000):oB k:=⟨150,rfl,Nat.le_trans h (by decide)⟩
theorem DV.nd {s:Nat} {neg:Bool} {M:Nat} {e N:Int} {k:Nat} (h:DV s neg M e N k) (a:oB k):nd M<=1000/\nd M<=137:=by
 obtain⟨K,n,l⟩:=h.bd;obtain⟨j,f,a⟩:=a;have d:M<2^(K+j+1):=by
  have i:=h.le;have b:k*2^K<=2^j*2^K:=Nat.mul_le_mul_right _ a;rw [<- Nat.pow_add] at b
  rw [Nat.pow_succ,Nat.add_comm K j];have g:=Nat.two_pow_pos (j+K);generalize 2^(j+K)=P at *
  omega
 obtain⟨c,m⟩:∃ c:Nat,c=137:=⟨_,rfl⟩;have:=bP (N:=M) (k:=c) (Nat.lt_of_lt_of_le d (Nat.pow_le_pow_right (by decide) (by omega)))
 omega
structure PL (M X:Nat) (nm nx:Bool) (e ex E:Int) (n m:Nat) (S T:Int) (k:Nat):Prop where
 hn:M≠0->e - E=(n:Int)
 hm:X≠0->ex - E=(m:Int)
 hn1:n<=5000
 hm1:m<=5000
 lo: -2148<=E
 hi:E<=2000
 hk:E+2148=(k:Int)
 had:nd (M*2^n)<=10000000
 hbd:nd (X*2^m)<=10000000
 val:S*((2^k:Nat):Int)=T
theorem xY {M n:Nat} (h:nd M<=1000) (hn:n<=5000):nd (M*2^n)<=10000000:=by
 have a:M*2^n<2^(32*nd M)*2^n:=Nat.mul_lt_mul_of_pos_right (dh M) (Nat.two_pow_pos _);rw [<- Nat.pow_add] at a
 have:=bP (N:=M*2^n) (k:=nd M+n / 32+1) (Nat.lt_of_lt_of_le a (Nat.pow_le_pow_right (by decide) (by omega)))
 omega
theorem tC {M n k:Nat} {neg:Bool} {e:Int} (b:M≠0->n+k=(e+2148).toNat):sg neg (M*2^n)*((2^k:Nat):Int)=sg neg M*((2^(e+2148).toNat:Nat):Int):=by
 rw [<- iA,<- iA,Nat.mul_assoc,<- Nat.pow_add]
 by_cases a:M=0
 ·rw [a,Nat.zero_mul,Nat.zero_mul]
 ·rw [b a]
theorem OF {M X:Nat} {nm nx:Bool} {e ex E:Int} (j: -2148<=e) (i:e<=2000) (g: -2148<=ex) (p:ex<=2000) (s:nd M<=1000) (r:nd X<=1000) (l:iY M e X ex=E) :
  ∃ n m k,PL M X nm nx e ex E n m (sg nm (M*2^n)+sg nx (X*2^m)) (sg nm M*((2^(e+2148).toNat:Nat):Int)+sg nx X*((2^(ex+2148).toNat:Nat):Int)) k:=by
 have c: -2148<=E/\E<=2000/\(M≠0->E<=e)/\(X≠0->E<=ex):=by
  rw [<- l];unfold iY
  by_cases a:M=0
  ·rw [if_pos a];refine⟨g,p,fun h=>absurd a h,fun _=>Int.le_refl _⟩
  ·rw [if_neg a]
   by_cases b:X=0
   ·rw [if_pos b];exact⟨j,i,fun _=>Int.le_refl _,fun h=>absurd b h⟩
   ·rw [if_neg b];refine⟨by omega,by omega,fun _=>by omega,fun _=>by omega⟩
 obtain⟨o,q,f,d⟩:=c;refine⟨(e - E).toNat,(ex - E).toNat,(E+2148).toNat,fun h=>by have:=f h;omega,fun h=>by have:=d h;omega,by omega,by omega,o,q,by omega,xY s (by omega),xY r (by omega),?_⟩
 rw [Int.add_mul,tC (e:=e) (fun h=>by have:=f h;omega),tC (e:=ex) (fun h=>by have:=d h;omega)]
theorem Dr {s M X f n m k kk kk':Nat} {nm nx a:Bool} {e ex E d T:Int} (h:PL M X nm nx e ex E n m (sg nm (M*2^n)+sg nx (X*2^m)) T k) (p:sg a f=sg nm (M*2^n)+sg nx (X*2^m)) (o:d=E\/(d=0/\f=0)) (j:s=0) (i:∃ K,K=4200/\T.natAbs<=kk*2^K) (g:kk<=kk'):DV s a f d T kk':=by
 obtain⟨K,t,i⟩:=i;have b:=h.val;rw [<- p] at b
 have r:=h.lo;have u:=h.hi;have v:=h.hk;refine⟨by omega,by omega,by omega,?_,fun c=>absurd j c,K,t,Nat.le_trans i (Nat.mul_le_mul_right _ g)⟩
 rcases o with l | ⟨l,q⟩
 ·rw [l,show (E+2148).toNat=k by omega];exact b
 ·rw [q,aT,Int.zero_mul] at b ⊢;exact b
theorem ql {p:Nat} {neg:Bool} {N:Nat} {e:Int} (h:OfR p neg N e) (g:p<18446744073709551616) (hn:ag p):az (p:Int)*((2^(aP (p:Int)+2148).toNat:Nat):Int)=sg neg N*((2^(e+2148).toNat:Nat):Int)/\ay (p:Int)=true/\(N≠0->az (p:Int)=sg neg N/\aP (p:Int)=e)/\(N=0->az (p:Int)=0):=by
 have f:=eo p;have k:=hn;unfold ag at k
 have b:ay (p:Int)=true:=by unfold ay;rw [f];simp;omega
 have d:(N≠0->az (p:Int)=sg neg N/\aP (p:Int)=e)/\(N=0->az (p:Int)=0):=by
  refine⟨fun a=>?_,fun a=>?_⟩
  ·obtain⟨j,o⟩:=h.mag a;have i:p % 9223372036854775808≠0:=by
    intro m;rw [m] at j;exact a (by rw [j];decide)
   have t:gz ((p % 9223372036854775808:Nat):Int)=(mg (p % 9223372036854775808):Int):=by
    generalize p % 9223372036854775808=r at *
    unfold gz mg
    by_cases c:r<4503599627370496
    ·rw [if_pos c,if_pos (by omega)]
    ·rw [if_neg c,if_neg (by omega)];omega
   have q:kE ((p % 9223372036854775808:Nat):Int)= -1074+(pl (p % 9223372036854775808):Int):=by
    generalize p % 9223372036854775808=r at *
    unfold kE pl
    by_cases c:r<4503599627370496
    ·rw [if_pos (by omega)];omega
    ·rw [if_neg (by omega)];omega
   constructor
   ·unfold az;rw [b,if_pos rfl,f,t,<- j,gh g,<- h.sgn a]
    rfl
   ·unfold aP;rw [b,f,q,<- o,show decide (((p % 9223372036854775808:Nat):Int)≠0)=true by simpa using fun h=>i (by omega)]
    rfl
  ·have n:p % 9223372036854775808=0:=by
    have:=h.val;rw [a,Nat.zero_mul] at this
    have l:=fD (r:=p % 9223372036854775808) (s:=0);rw [bp] at l
    exact l.1 this.symm
   unfold az;rw [b,if_pos rfl,f,n,show gz ((0:Nat):Int)=0 from rfl]
   split<;>rfl
 refine⟨?_,b,d⟩
 by_cases a:N=0
 ·rw [d.2 a,a,aT,Int.zero_mul,Int.zero_mul]
 ·rw [(d.1 a).1,(d.1 a).2]
theorem MW {x:Nat} {nx:Bool} {X:Nat} {ex:Int} (h:OfR x nx X ex) (a:x<18446744073709551616) (hn:ag x):sg nx X*((2^(ex+2148).toNat:Nat):Int)=A.nN (x:Int):=by
 rw [<- (ql h a hn).1];unfold A.nN;rw [Int.natCast_pow];rfl
theorem IY {x:Nat} {nx:Bool} {X:Nat} {ex:Int} (h:OfR x nx X ex):∃ K,K=4200/\(sg nx X*((2^(ex+2148).toNat:Nat):Int)).natAbs<=1*2^K:=by
 refine⟨4200,rfl,?_⟩
 obtain⟨K,b⟩:∃ K:Nat,K=4200:=⟨_,rfl⟩;rw [<- b];rw [Int.natAbs_mul,bH,Int.natAbs_natCast,Nat.one_mul];have d:=h.lt;have c:=h.hi;have a:X*2^(ex+2148).toNat<=2^53*2^(ex+2148).toNat:=Nat.mul_le_mul_right _ (by omega)
 rw [<- Nat.pow_add] at a
 exact Nat.le_trans a (Nat.pow_le_pow_right (by decide) (by omega))
theorem IZ {A B:Int} {k:Nat} (g:∃ K,K=4200/\A.natAbs<=k*2^K) (f:∃ K,K=4200/\B.natAbs<=1*2^K):∃ K,K=4200/\(A+B).natAbs<=(k+1)*2^K:=by
 obtain⟨K,d,a⟩:=g;obtain⟨c,e,b⟩:=f;have:c=K:=by omega
 subst this;refine⟨c,d,?_⟩
 rw [Nat.add_mul];generalize k*2^c=P at *
 generalize 1*2^c=Q at *
 omega
theorem gn {w1 w:World} {s:Int} {neg:Bool} {v:Value} {e:Int} (h:Cells8 w1 w s neg v e):Cells8 w1.drew w s neg v e:=⟨h.c0,h.c1,h.c2,h.c3,h.d0,h.d1,h.d2,h.d3,h.f0,h.f1,h.f2,h.f3⟩
theorem cZ {A B:Nat} {v:Value} (h:From B v) (b:A<=B):From A v:=fun a l c e=>Nat.le_trans b (h a l c e)
def cw (w:World) (v:Value) (M:Nat) (a:A.St) (k:Nat) (r:Ending) (e:World):Prop:=
 ∃ b c d f,r=.returned (AV (a.s:Int) b c f)/\DN e c d/\(c=v/\d=M\/From w.heap.size c)/\DV a.s b d f a.N k/\Below w.heap.size w e
theorem nO {w b:World} {v:Value} {M:Nat} {a:A.St} {k:Nat} {s:Int} (c:(a.s:Int)=s) (f:a.s<=3) (d:a.N=0) (e:Below w.heap.size w b) :
  cw w v M a k (.returned (AV s false (.slice none 0 0) 0)) b:=by
 refine⟨false,.slice none 0 0,0,0,by rw [c],Or.inl ⟨rfl,_,_,rfl⟩,Or.inr (gI _),by rw [d];exact DV.zero f k,e⟩
theorem Fa (s:Nat) (N:Int) (a:s<=3):A.St.merge ⟨s,N⟩ ⟨3,0⟩=⟨3,0⟩:=by
 unfold A.St.merge A.mt;rcases (show s=0\/s=1\/s=2\/s=3 by omega) with rfl | rfl | rfl | rfl<;>rfl
theorem iG {s:Nat} {N M:Int}:A.St.merge ⟨s,N⟩ ⟨0,M⟩=⟨s,if s=0 then N+M else 0⟩:=by
 unfold A.St.merge;have e:A.mt s 0=s:=by simp [A.mt]
 simp only [e]
theorem Ja {u:Int} (h:ah u=true):A.dI u=⟨3,0⟩:=by
 have a:ay u=false:=by
  unfold ay;unfold ah at h
  rw [decide_eq_true_eq] at h
  rw [decide_eq_false_iff_not];omega
 unfold A.dI A.endN;rw [a,h];rfl
theorem Jb {u:Int} (h:aX u=true):A.dI u=⟨if sgB u then 2 else 1,0⟩:=by
 have a:szI u=9218868437227405312:=by unfold aX at h;simpa using h
 have c:ay u=false:=by unfold ay;rw [a];rfl
 have b:ah u=false:=by unfold ah;rw [a];rfl
 unfold A.dI A.endN;rw [c,b];rfl
theorem Jc (s:Nat) (neg:Bool) (v:Value) (M:Nat) (e:Int) (N:Int) (k:Nat) (u:Int) (w:World) (g:s<=3) (h:U64 u) (hn:ah u=true) :
  Calls Tryz.prog 109 #[AV (s:Int) neg v e,.int .u64 u] w (cw w v M (A.St.merge ⟨s,N⟩ (A.dI u)) k):=by
 have f:=aa (aj u · h);rw [hn] at f
 obtain⟨c,b⟩:∃ c,A.St.merge ⟨s,N⟩ (A.dI u)=c:=⟨_,rfl⟩;have d:Hid (c=⟨3,0⟩):=by show _=_;rw [<- b,Ja hn,Fa s N g]
 rw [b];have i:=aa (dT w (s:Int) neg v e);have m:=aa (dl w (s:Int) neg v e);obtain⟨c0,c1,c2,c3,n,r,q,j,t,l,y,o⟩:=i.out;clear h hn b
 go_enter Tryz.func109,Tryz.ntmps109
 go_wp2_with fail
 refine (aG (f.out _)).mono ?_
 rintro x p ⟨rfl,rfl⟩
 go_wp2_with fail
 refine bodyPost_ret (v:=.agg #[.int .i64 3,.bool false,.slice none 0 0,.int .i64 0]) (by simp [results,Tryz.results109,go_sem]) rfl ?_
 exact nO (v:=v) (M:=M) (a:=c) (k:=k) (s:=3) (by rw [d.out];rfl) (by rw [d.out];decide) (by rw [d.out]) (((Below.refl _ _).alloc (Nat.le_refl _) _).trans (((Below.refl _ _).alloc (Nat.le_refl _) _).mono (by simp)))
theorem Jd (s:Nat) (neg:Bool) (v:Value) (M:Nat) (e:Int) (N:Int) (k:Nat) (u:Int) (w:World) (z:s<=3) (h:U64 u) (hn:ah u=false) (hi:aX u=true) :
  Calls Tryz.prog 109 #[AV (s:Int) neg v e,.int .u64 u] w (cw w v M (A.St.merge ⟨s,N⟩ (A.dI u)) k):=by
 have C:=aa (aj u · h);have D:=aa (av u · h);rw [hn] at C
 rw [hi] at D
 obtain⟨b,n⟩:∃ b,sgB u=b:=⟨_,rfl⟩;have B:Hid (∀ w,Calls Tryz.prog 151 #[.int .u64 u] w fun e r=>e=.returned (.bool b)/\w=r):=fun w=>by
  have:=bZ u w;rw [n] at this
  exact aG this
 obtain⟨t,i⟩:∃ t,A.St.merge ⟨s,N⟩ (A.dI u)=t:=⟨_,rfl⟩;obtain⟨m,j⟩:∃ m:Nat,A.mt s (if b then 2 else 1)=m:=⟨_,rfl⟩
 have o:m<=3:=by rw [<- j];exact A.OD z (by split<;>omega)
 have l:m≠0:=by
  rw [<- j,Pm s _ z (by cases b<;>simp)]
  cases b<;>simp<;>split<;>omega
 have p:Hid (t=⟨m,0⟩):=by
  show _=_
  rw [<- i,Jb hi,n];unfold A.St.merge;dsimp only;rw [j,if_neg l]
 rw [i];have c:=aa fun w=>MV s neg b v e w z
 rw [j] at c
 obtain⟨q,g⟩:∃ q:Int,(m:Int)=q:=⟨_,rfl⟩;rw [g] at c
 have O:=aa fun (J:World) (n:Below w.heap.size w J)=>nO (v:=v) (M:=M) (a:=t) (k:=k) (s:=q) (by rw [p.out];exact g) (by rw [p.out];exact o) (by rw [p.out]) n
 have F:=aa (dT w (s:Int) neg v e);have I:=aa (dl w (s:Int) neg v e);have E:=aa (iF w (s:Int) neg v e);obtain⟨c0,c1,c2,c3,S,X,W,P,Z,Q,Y,V⟩:=F.out;clear h hn hi i n j l o g p
 go_enter Tryz.func109,Tryz.ntmps109
 go_wp2_with fail
 refine (aG (C.out _)).mono ?_
 rintro x r ⟨rfl,rfl⟩
 go_wp2_with fail
 refine (aG (D.out _)).mono ?_
 rintro x r ⟨rfl,rfl⟩
 go_wp2_with fail
 go_region_with (first | ((go_at_call 151;refine (B.out _).mono ?_;rintro x r ⟨rfl,rfl⟩)) | ((go_at_call 150;refine (c.out _).mono ?_;rintro x w4 ⟨rfl,f⟩;have y:=aa (I.out.drew.trans (f.mono (show w.heap.size<=(boxA2 w (s:Int) neg v e).heap.size by rw [E.out];omega)));have d:=aa (Cells8.below (gn F.out) f (show w.heap.size+1<(boxA2 w (s:Int) neg v e).heap.size by rw [E.out];omega));have K:=d.out.d0;have G:=d.out.d1;have H:=d.out.d2;have L:=d.out.d3;have l0:=d.out.f0;have T:=d.out.f1;have R:=d.out.f2;have U:=d.out.f3;clear f)))
 all_goals
  go_wp2_with fail
  refine bodyPost_ret (v:=.agg #[.int .i64 q,.bool false,.slice none 0 0,.int .i64 0]) (by simp [results,Tryz.results109,go_sem,K,G,H,L]) rfl ?_
  exact O.out _ (bX y.out (by omega))
theorem Fb (s:Nat) (neg:Bool) (v:Value) (M:Nat) (e:Int) (N:Int) (k x:Nat) (u:Int) (w:World) (i:DN w v M) (g:DV s neg M e N k) (b:s≠0) (h:U64 u) (hn:ah u=false) (hi:aX u=false) (f:u=(x:Int)) :
  Calls Tryz.prog 109 #[AV (s:Int) neg v e,.int .u64 u] w (cw w v M (A.St.merge ⟨s,N⟩ (A.dI u)) (k+1)):=by
 have n:=aa (aj u · h);have o:=aa (av u · h);rw [hn] at n
 rw [hi] at o
 obtain⟨j,a⟩:∃ j,A.St.merge ⟨s,N⟩ (A.dI u)=j:=⟨_,rfl⟩;have t:Hid (j=⟨s,N⟩):=by
  show _=_
  have r:ay u=true:=by
   have:=fK f hn hi;unfold ag at this
   unfold ay;rw [f,eo];simp;omega
  have q:A.dI u=⟨0,A.nN u⟩:=by unfold A.dI;rw [r];rfl
  rw [<- a,q,iG,if_neg b,g.none b]
 rw [a];obtain⟨p,l,c,rfl⟩:=i.shape;have z:=aa i;have B:=aa (g.mono (show k<=k+1 by omega))
 have D:(((s:Int) !=0))=true:=by simp;omega
 have m:((s:Int)==0)=false:=by simp;omega
 have C:=aa (dT w (s:Int) neg (.slice p l c) e);have G:=aa (dl w (s:Int) neg (.slice p l c) e);obtain⟨c0,c1,c2,c3,H,K,J,E,L,F,O,I⟩:=C.out;clear h hn hi a i g f b
 go_enter Tryz.func109,Tryz.ntmps109
 go_wp2_with fail
 refine (aG (n.out _)).mono ?_
 rintro x y ⟨rfl,rfl⟩
 go_wp2_with fail
 refine (aG (o.out _)).mono ?_
 rintro x y ⟨rfl,rfl⟩
 go_wp2_with fail
 refine bodyPost_ret (v:=.agg #[.int .i64 (s:Int),.bool neg,.slice p l c,.int .i64 e]) (by simp [results,Tryz.results109,go_sem]) rfl ?_
 have d:Below w.heap.size w ((w.alloc (.cells #[.int .i64 (s:Int),.bool neg,.slice p l c,.int .i64 e] 85)).alloc (.cells #[.int .i64 (s:Int),.bool neg,.slice p l c,.int .i64 e] 85)):=((Below.refl _ _).alloc (Nat.le_refl _) _).trans (((Below.refl _ _).alloc (Nat.le_refl _) _).mono (by simp))
 rw [t.out];exact⟨neg,.slice p l c,M,e,rfl,z.out.below d,Or.inl ⟨rfl,rfl⟩,B.out,d⟩
theorem Je (neg:Bool) (v:Value) (M:Nat) (e:Int) (N:Int) (k x:Nat) (u:Int) (w:World) (W:DN w v M) (hv:DV 0 neg M e N k) (Z:oB k) (h:U64 u) (hn:ah u=false) (hi:aX u=false) (G:Hid (u=(x:Int))) :
  Calls Tryz.prog 109 #[AV 0 neg v e,.int .u64 u] w (cw w v M (A.St.merge ⟨0,N⟩ (A.dI u)) (k+1)):=by
 have HN:=aa (aj u · h);have HI:=aa (av u · h);rw [hn] at HN
 rw [hi] at HI
 have g:=fK G.out hn hi;have i:x<18446744073709551616:=by have:=h.2;rw [G.out] at this;omega
 have HO:=aa fun w=>eL x u w G h g
 obtain⟨U,y⟩:∃ U,A.St.merge ⟨0,N⟩ (A.dI u)=U:=⟨_,rfl⟩;have HT:Hid (U=⟨0,N+A.nN (x:Int)⟩):=by
  show _=_
  have h1:ay u=true:=by
   unfold ag at g
   unfold ay;rw [G.out,eo];simp;omega
  have h2:A.dI u=⟨0,A.nN u⟩:=by unfold A.dI;rw [h1];rfl
  rw [<- y,h2,iG,if_pos rfl,G.out]
 rw [y];obtain⟨p,l,c,rfl⟩:=W.shape;have HD:=aa fun L (hb:Below w.heap.size w L)=>W.below hb
 have B:=aa hv;have H8:=aa (dT w 0 neg (.slice p l c) e);have HB:=aa (dl w 0 neg (.slice p l c) e);have V:=aa (iF w 0 neg (.slice p l c) e);have HX:=aa (And.intro g i);obtain⟨c0,c1,c2,c3,d0,d1,d2,d3,f0,f1,f2,f3⟩:=H8.out;clear h hn hi y W hv g i
 go_enter Tryz.func109,Tryz.ntmps109
 go_wp2_with fail
 refine (aG (HN.out _)).mono ?_
 rintro x L ⟨rfl,rfl⟩
 go_wp2_with fail
 refine (aG (HI.out _)).mono ?_
 rintro x L ⟨rfl,rfl⟩
 go_wp2_with fail
 go_region_with (first | ((go_at_call 74;refine (HO.out _).mono ?_;rintro r J ⟨nx,vx,X,I,rfl,q,hX,f⟩;obtain⟨px,lx,cx,rfl⟩:=q.shape;have z:=aa (HB.out.drew.trans (f.mono (show w.heap.size<=(boxA2 w 0 neg (.slice p l c) e).heap.size by rw [V.out];omega)));have K:=aa (Cells8.below (gn H8.out) f (show w.heap.size+1<(boxA2 w 0 neg (.slice p l c) e).heap.size by rw [V.out];omega));have Q:w.heap.size+2<=J.heap.size:=(by have h9:=f.size;have h8:(boxA2 w 0 neg (.slice p l c) e).heap.size<=J.heap.size:=h9;rw [V.out] at h8;exact h8);have Y:=aa q;have b:=aa hX;have g1:=K.out.c1;have g2:=K.out.c2;have g3:=K.out.c3;clear f q hX)) | ((go_at_call 73;obtain⟨E,P⟩:∃ E,iY M e X I=E:=⟨_,rfl⟩;obtain⟨n,m,kk,a⟩:=OF (nm:=neg) (nx:=nx) B.out.lo B.out.hi (show -2148<=I by have:=b.out.lo;omega) (show I<=2000 by have:=b.out.hi;omega) (B.out.nd Z).1 (show nd X<=1000 by have:=dw b.out.lt;omega) P;refine (pK neg nx (.slice p l c) (.slice px lx cx) e I E M X n m J (HD.out _ z.out) Y.out P a.hn a.hm (by have:=a.hn1;omega) (by have:=a.hm1;omega) (by have:=B.out.nd Z;omega) (by have:=dw b.out.lt;omega) a.had a.hbd).mono ?_;rintro r w4 ⟨d,v',N',O,rfl,o,H,C,D,t⟩;obtain⟨p4,l4,c4,rfl⟩:=o.shape;have R:Hid (DV 0 d N' O (N+A.nN (x:Int)) (k+1)):=(by have hT:=Dr (s:=0) (kk:=k+1) (kk':=k+1) a C D rfl (by rw [B.out.val];exact IZ B.out.bd (IY b.out)) (Nat.le_refl _);rw [B.out.val,MW b.out HX.out.2 HX.out.1] at hT;exact hT);have T:=aa (z.out.trans (t.mono z.out.size));have j:=aa (K.out.below t (show w.heap.size+1<J.heap.size by omega));have S:=aa o;have F:=aa (cZ H Q);have k0:=j.out.d0;have k1:=j.out.d1;have k2:=j.out.d2;have k3:=j.out.d3;have l0:=j.out.f0;have l1:=j.out.f1;have l2:=j.out.f2;have l3:=j.out.f3;clear o H C D t a P)))
 all_goals
  go_wp2_with fail
  refine bodyPost_ret (v:=.agg #[.int .i64 0,.bool d,.slice p4 l4 c4,.int .i64 O]) (by simp [results,Tryz.results109,go_sem,k0,k1,k2,k3]) rfl ?_
  rw [HT.out];exact⟨d,_,N',O,rfl,lJ S.out F.out (by omega),Or.inr (cZ F.out (by omega)),R.out,bX T.out (by omega)⟩
theorem Rm (s:Nat) (neg:Bool) (v:Value) (M:Nat) (e:Int) (N:Int) (k x:Nat) (u:Int) (w:World) (f:DN w v M) (b:DV s neg M e N k) (g:oB k) (h:U64 u) (c:Hid (u=(x:Int))) :
  Calls Tryz.prog 109 #[AV (s:Int) neg v e,.int .u64 u] w (cw w v M (A.St.merge ⟨s,N⟩ (A.dI u)) (k+1)):=by
 cases a:ah u with
 | true=>exact Jc s neg v M e N (k+1) u w b.s3 h a
 | false=>
  cases hi:aX u with
  | true=>exact Jd s neg v M e N (k+1) u w b.s3 h a hi
  | false=>
   by_cases d:s=0
   ·subst d;exact Je neg v M e N k x u w f b g h a hi c
   ·exact Fb s neg v M e N k x u w f b d h a hi c.out
end Go.Proofs.YtfdddijdjpijbaaGreat
namespace Go.Proofs.YtfdddijdjpijbaaGreat.A
open Go.RowKit
theorem MX {o:Option Nat} {r:Nat} (h:Ag o r):dI (r:Int)=dI (cn o:Int):=by
 cases o with
 | some q=>rw [cz h,ao]
 | none=>
  have f:∀ {b:Nat},ah (b:Int)=true->dI (b:Int)=⟨3,0⟩:=fun {b} a=>by
   have c:ay (b:Int)=false:=by
    unfold ay;unfold ah at a
    rw [decide_eq_true_eq] at a
    rw [decide_eq_false_iff_not];omega
   unfold dI endN;rw [c,a];rfl
  rw [f (eV h).1,lz,f pV]
def bn (x y:Nat):St:=if ay (x:Int)&&ay (y:Int) then fR (x:Int) (y:Int) else dI (cn (floatBits .mul .f64 x y):Int)
theorem Jf (B b:Nat) (v:Value) (L:Nat) (a:St) (x y:Nat) (w:World) (h:AccAt w B b v L a) (E:B<=w.heap.size) (s:U64 (x:Int)) (t:U64 (y:Int)) (c:(ay (x:Int)&&ay (y:Int))=false) (C:L<=40000) :
  Calls Tryz.prog 89 #[.pointer (some ⟨b,0,none⟩),.float .f64 x,.float .f64 y] w fun r k=>r=.returned (.tuple #[])/\∃ q A,Did (w.drewN q) k B b v (max L 70+1) (a.merge (bn x y)) A:=by
 have m:=hideS (fI x x w rfl s);have f:=hideS (fI y y w rfl t);obtain⟨r,⟨q,F⟩,g⟩:=dm .mul (by simp) 27 x y w
 have d:r<18446744073709551616:=by
  cases n:floatBits .mul .f64 x y with
  | none=>rw [n] at g;exact (eV g).2
  | some z=>rw [n] at g;rw [cz g];exact cR (by simp) n
 have i:=hideS (MU B b v L a r r (w.drewN q) (h.drewN q) E rfl (af d) C);have u:Hid (a.merge (dI (r:Int))=a.merge (bn x y)):=by
  show _=_
  unfold bn;rw [c,if_neg (by decide),MX g]
 rw [u.out] at i
 clear h s t g d u;cases j:ay (x:Int)
 ·rw [j] at m
  clear c j
  go_enter Tryz.func89,Tryz.ntmps89
  go_wp2_with fail
  refine (turned m.out).mono ?_
  rintro e k ⟨rfl,rfl⟩
  go_wp2_with fail
  refine (turned f.out).mono ?_
  rintro e k ⟨rfl,rfl⟩
  go_wp2_with fail
  refine i.out.mono ?_
  rintro e D ⟨rfl,o,l⟩;have p:=hideS l;clear l
  go_wp2_with fail
  first | go_end0 | refine bodyPost_ret (results_none rfl _ _ _) rfl ?_
  exact⟨rfl,q,o,p.out⟩
 ·rw [j,Bool.true_and] at c
  rw [j] at m
  rw [c] at f
  clear c j
  go_enter Tryz.func89,Tryz.ntmps89
  go_wp2_with fail
  refine (turned m.out).mono ?_
  rintro e k ⟨rfl,rfl⟩
  go_wp2_with fail
  refine (turned f.out).mono ?_
  rintro e k ⟨rfl,rfl⟩
  go_wp2_with fail
  refine i.out.mono ?_
  rintro e D ⟨rfl,o,l⟩;have p:=hideS l;clear l
  go_wp2_with fail
  first | go_end0 | refine bodyPost_ret (results_none rfl _ _ _) rfl ?_
  exact⟨rfl,q,o,p.out⟩
theorem gT (B b:Nat) (v:Value) (L:Nat) (a:St) (x y:Nat) (w:World) (h:AccAt w B b v L a) (j:B<=w.heap.size) (f:U64 (x:Int)) (i:U64 (y:Int)) (g:L<=40000) :
  Calls Tryz.prog 89 #[.pointer (some ⟨b,0,none⟩),.float .f64 x,.float .f64 y] w fun r k=>r=.returned (.tuple #[])/\∃ q d,Did (w.drewN q) k B b v (max L 70+1) (a.merge (bn x y)) d:=by
 cases c:(ay (x:Int)&&ay (y:Int)) with
 | false=>exact Jf B b v L a x y w h j f i c g
 | true=>
  rw [Bool.and_eq_true] at c
  have e:bn x y=fR (x:Int) (y:Int):=by unfold bn;rw [c.1,c.2];rfl
  rw [e];exact (xU B b v L a x y x y w h j rfl f rfl i c.1 c.2 g).mono fun _ _ ⟨m,d,l⟩=>⟨m,0,d,l⟩
end Go.Proofs.YtfdddijdjpijbaaGreat.A
namespace Go.Proofs.YtfdddijdjpijbaaGreat
open Go.RowKit
theorem vF {w m n:World} {v:Value} {M k:Nat} {a:A.St} {s:Int} {neg:Bool} {e:Int} {r:Ending} (x:DN w v M) (i:Below w.heap.size w m) (q:w.heap.size+2<=m.heap.size) (h:cw m v M a k r n) (z:Cells8 m w s neg v e) :
  ∃ c j g c4 o,r=.returned (AV (a.s:Int) c (.slice j g c4) o)/\Cells8 n w s neg v e/\cw w v M a k (.returned (AV (a.s:Int) c (.slice j g c4) o)) (put4 n (w.heap.size+1) (a.s:Int) c (.slice j g c4) o):=by
 obtain⟨c,B,u,t,rfl,d,b,p,f⟩:=h;obtain⟨j,g,c4,rfl⟩:=d.shape;have l:Below w.heap.size w n:=i.trans (f.mono i.size);refine⟨c,j,g,c4,t,rfl,z.below f (by omega),c,_,u,t,rfl,?_,?_,p,bX l (by omega)⟩
 ·rcases b with⟨b,y⟩| b
  ·rw [b,y];exact x.below (bX l (by omega))
  ·exact lJ d (cZ b q) (by omega)
 ·rcases b with b | b
  ·exact Or.inl b
  ·exact Or.inr (cZ b (by omega))
theorem Fc (s:Nat) (neg:Bool) (v:Value) (M:Nat) (e:Int) (N:Int) (k x y:Nat) (u t:Int) (w:World) (H:DN w v M) (hv:DV s neg M e N k) (Y:oB k) (h:U64 u) (L:U64 t) (K:Hid (u=(x:Int))) (R:Hid (t=(y:Int))) (f:(ay u&&ay t)=false) :
  Calls Tryz.prog 67 #[AV (s:Int) neg v e,.int .u64 u,.int .u64 t] w (cw w v M (A.St.merge ⟨s,N⟩ (A.bn x y)) (k+1)):=by
 have B:=aa (ch u · h);have E:=aa (ch t · L);obtain⟨z,C⟩:∃ z:Int,z=(cn (floatBits .mul .f64 x y):Int):=⟨_,rfl⟩;have HM:Hid (∀ w,Calls Tryz.prog 63 #[.int .u64 u,.int .u64 t] w fun e a=>e=.returned (.int .u64 z)/\Below w.heap.size w a):=fun w=>by rw [C];exact cX x y u t w K R h L
 obtain⟨F,m⟩:∃ F,A.St.merge ⟨s,N⟩ (A.bn x y)=F:=⟨_,rfl⟩;have g:U64 z:=by rw [C];exact af (xz (by simp) _ _)
 have i:A.St.merge ⟨s,N⟩ (A.dI z)=F:=by
  rw [<- m];unfold A.bn;rw [<- K.out,<- R.out,f,if_neg (by decide),C]
 have I:Hid (∀ a,Below w.heap.size w a->Calls Tryz.prog 109 #[AV (s:Int) neg v e,.int .u64 z] a (cw a v M F (k+1))):=fun a hb=>by
  rw [<- i];exact Rm s neg v M e N k _ z a (H.below hb) hv Y g C
 rw [m];obtain⟨p,l,c,rfl⟩:=H.shape;have HD:=aa H;have T:=aa (dT w (s:Int) neg (.slice p l c) e);have Z:=aa (dl w (s:Int) neg (.slice p l c) e);have Q:=aa (iF w (s:Int) neg (.slice p l c) e);obtain⟨c0,c1,c2,c3,d0,d1,d2,d3,f0,f1,f2,f3⟩:=T.out;obtain⟨J,o⟩:∃ J,ay u=J:=⟨_,rfl⟩;obtain⟨P,n⟩:∃ P,ay t=P:=⟨_,rfl⟩;rw [o] at B
 rw [n] at E
 rw [o,n] at f
 clear h L H C g m i K R o n;cases J<;>cases P
 all_goals first | (exact absurd f (by decide)) | skip
 all_goals
  clear f
  go_enter Tryz.func67,Tryz.ntmps67
  go_wp2_with (first | (go_at_call_of 41 (Value.int IntKind.u64 u);refine (aG (B.out _)).mono ?_;rintro x a ⟨rfl,rfl⟩) | (go_at_call_of 41 (Value.int IntKind.u64 t);refine (aG (E.out _)).mono ?_;rintro x a ⟨rfl,rfl⟩))
  go_region_with (first | ((go_at_call 63;refine (HM.out _).mono ?_;rintro x U ⟨rfl,b⟩;have G:=aa (Z.out.drew.trans (b.mono (show w.heap.size<=(boxA2 w (s:Int) neg (.slice p l c) e).heap.size by rw [Q.out];omega)));have D:=aa (Cells8.below (gn T.out) b (show w.heap.size+1<(boxA2 w (s:Int) neg (.slice p l c) e).heap.size by rw [Q.out];omega));have O:w.heap.size+2<=U.heap.size:=(by have h9:=b.size;have V:(boxA2 w (s:Int) neg (.slice p l c) e).heap.size<=U.heap.size:=h9;rw [Q.out] at V;exact V);have g0:=D.out.c0;have g1:=D.out.c1;have g2:=D.out.c2;have g3:=D.out.c3;clear b)) | ((go_at_call 109;refine (I.out _ G.out).mono ?_;intro r w4 j;obtain⟨q,p4,l4,c4,e4,rfl,d,S⟩:=vF HD.out G.out O j D.out;have HE:=aa S;have k0:=d.d0;have k1:=d.d1;have W:=d.d2;have X:=d.d3;have l0:=d.f0;have l1:=d.f1;have l2:=d.f2;have l3:=d.f3;clear j S d)))
  all_goals
   go_wp2_with fail
   refine bodyPost_ret (v:=.agg #[.int .i64 (F.s:Int),.bool q,.slice p4 l4 c4,.int .i64 e4]) (by simp [results,Tryz.results67,go_sem,k0,k1,W,X]) rfl ?_
   exact HE.out
theorem Bp (s:Nat) (neg:Bool) (v:Value) (M:Nat) (e:Int) (N:Int) (k x y:Nat) (u t:Int) (w:World) (n:DN w v M) (m:DV s neg M e N k) (f:s≠0) (h:U64 u) (z:U64 t) (r:u=(x:Int)) (B:t=(y:Int)) (b:ay u=true) (a:ay t=true) :
  Calls Tryz.prog 67 #[AV (s:Int) neg v e,.int .u64 u,.int .u64 t] w (cw w v M (A.St.merge ⟨s,N⟩ (A.bn x y)) (k+1)):=by
 have i:=aa (ch u · h);have j:=aa (ch t · z);rw [b] at i
 rw [a] at j
 obtain⟨o,d⟩:∃ o,A.St.merge ⟨s,N⟩ (A.bn x y)=o:=⟨_,rfl⟩;have C:Hid (o=⟨s,N⟩):=by
  show _=_
  rw [<- d];unfold A.bn;rw [<- r,<- B,b,a]
  show A.St.merge ⟨s,N⟩ (A.fR u t)=_
  unfold A.fR;rw [iG,if_neg f,m.none f]
 rw [d];obtain⟨p,l,c,rfl⟩:=n.shape;have E:=aa n;have F:=aa (m.mono (show k<=k+1 by omega))
 have H:(((s:Int) !=0))=true:=by simp;omega
 have q:((s:Int)==0)=false:=by simp;omega
 have G:=aa (dT w (s:Int) neg (.slice p l c) e);obtain⟨c0,c1,c2,c3,K,P,O,I,Q,J,R,L⟩:=G.out;clear h z d n m r B f b a
 go_enter Tryz.func67,Tryz.ntmps67
 go_wp2_with (first | (go_at_call_of 41 (Value.int IntKind.u64 u);refine (aG (i.out _)).mono ?_;rintro x D ⟨rfl,rfl⟩) | (go_at_call_of 41 (Value.int IntKind.u64 t);refine (aG (j.out _)).mono ?_;rintro x D ⟨rfl,rfl⟩))
 refine bodyPost_ret (v:=.agg #[.int .i64 (s:Int),.bool neg,.slice p l c,.int .i64 e]) (by simp [results,Tryz.results67,go_sem]) rfl ?_
 have g:Below w.heap.size w ((w.alloc (.cells #[.int .i64 (s:Int),.bool neg,.slice p l c,.int .i64 e] 85)).alloc (.cells #[.int .i64 (s:Int),.bool neg,.slice p l c,.int .i64 e] 85)):=((Below.refl _ _).alloc (Nat.le_refl _) _).trans (((Below.refl _ _).alloc (Nat.le_refl _) _).mono (by simp))
 rw [C.out];exact⟨neg,.slice p l c,M,e,rfl,E.out.below g,Or.inl ⟨rfl,rfl⟩,F.out,g⟩
def Three (a:World) (B:Nat) (neg:Bool) (v:Value) (e:Int):Prop:=
 a.cell? ⟨B,1,none⟩=some (.bool neg)/\a.cell? ⟨B,2,none⟩=some v/\a.cell? ⟨B,3,none⟩=some (.int .i64 e)
theorem Cells8.three {w1 w:World} {s:Int} {neg:Bool} {v:Value} {e:Int} (h:Cells8 w1 w s neg v e):Three w1 w.heap.size neg v e:=⟨h.c1,h.c2,h.c3⟩
theorem Fd {w:World} {B:Nat} {neg d:Bool} {v l:Value} {e g k:Int} (h:Three w B neg v e):Three (put4 w (B+1) k d l g) B neg v e:=by
 have m:B+1≠B:=by omega
 have f:∀ (i j:Nat) (w:World) (x:Value),(w.setCell ⟨B+1,i,none⟩ x).cell? ⟨B,j,none⟩=w.cell? ⟨B,j,none⟩:=fun i j w x=>World.cell?_setCell_far w ⟨B+1,i,none⟩ ⟨B,j,none⟩ x m
 obtain⟨a,b,c⟩:=h;refine⟨?_,?_,?_⟩
 ·rw [f,f,f,f];exact a
 ·rw [f,f,f,f];exact b
 ·rw [f,f,f,f];exact c
theorem QJ {E ex ey:Int} {N:Nat} (h:E=ex+ey\/(E=0/\N=0)) (b: -1074<=ex) (a:ex<=971) (d: -1074<=ey) (c:ey<=971): -2148<=E/\E<=2000:=by
 rcases h with h | ⟨h,_⟩ <;>omega
theorem Fe {x y X Y:Nat} {nx w:Bool} {ex ey:Int} (n:OfR x nx X ex) (l:OfR y w Y ey) (e:x<18446744073709551616) (b:y<18446744073709551616) (o:ag x) (s:ag y) {neg N E} (v:sg neg N=sg nx X*sg w Y) (r:E=ex+ey\/(E=0/\N=0)) :
  sg neg N*((2^(E+2148).toNat:Nat):Int)=az (x:Int)*az (y:Int)*2^(aP (x:Int)+aP (y:Int)+2148).toNat/\-2148<=E/\E<=2000/\nd N<=1000/\∃ K,K=4200/\(sg neg N*((2^(E+2148).toNat:Nat):Int)).natAbs<=1*2^K:=by
 obtain⟨_,_,f,q⟩:=ql n e o;obtain⟨_,_,j,p⟩:=ql l b s;have m:N=X*Y:=by
  have:=congrArg Int.natAbs v;rw [Int.natAbs_mul,bH,bH,bH] at this;exact this
 have D:=n.lo;have C:=n.hi;have F:=l.lo;have A:=l.hi;have z:N<9007199254740992*9007199254740992:=by rw [m];exact Nat.mul_lt_mul'' n.lt l.lt
 have t:nd N<=1000:=Nat.le_trans (bP (k:=4) (by omega)) (by omega)
 obtain⟨G,B⟩:=QJ r D C F A;refine⟨?_,G,B,t,4200,rfl,?_⟩
 ·by_cases a:N=0
  ·rw [a,aT,Int.zero_mul];have:X=0\/Y=0:=by rw [m] at a;exact Nat.mul_eq_zero.1 a
   rcases this with c | c
   ·rw [q c,Int.zero_mul,Int.zero_mul]
   ·rw [p c,Int.mul_zero,Int.zero_mul]
  ·have i:X≠0:=fun c=>a (by rw [m,c,Nat.zero_mul])
   have g:Y≠0:=fun c=>a (by rw [m,c,Nat.mul_zero])
   have d:E=ex+ey:=by
    rcases r with h | ⟨_,h⟩
    ·exact h
    ·exact absurd h a
   rw [v,d,(f i).1,(f i).2,(j g).1,(j g).2,Int.natCast_pow];rfl
 ·obtain⟨K,H⟩:∃ K:Nat,K=4200:=⟨_,rfl⟩;rw [<- H,Int.natAbs_mul,bH,Int.natAbs_natCast,Nat.one_mul];have u:N*2^(E+2148).toNat<=2^106*2^(E+2148).toNat:=Nat.mul_le_mul_right _ (by omega)
  by_cases a:N=0
  ·rw [a,Nat.zero_mul];exact Nat.zero_le _
  ·have d:E=ex+ey:=by
    rcases r with h | ⟨_,h⟩
    ·exact h
    ·exact absurd h a
   rw [<- Nat.pow_add] at u
   exact Nat.le_trans u (Nat.pow_le_pow_right (by decide) (by omega))
theorem Ff (neg:Bool) (v:Value) (M:Nat) (e:Int) (N:Int) (k x y:Nat) (u t:Int) (w:World) (hd:DN w v M) (hv:DV 0 neg M e N k) (hk:oB k) (h:U64 u) (h':U64 t) (hu:Hid (u=(x:Int))) (ht:Hid (t=(y:Int))) (G:ay u=true) (F:ay t=true) :
  Calls Tryz.prog 67 #[AV 0 neg v e,.int .u64 u,.int .u64 t] w (cw w v M (A.St.merge ⟨0,N⟩ (A.bn x y)) (k+1)):=by
 have ad:=aa (ch u · h);have ba:=aa (ch t · h');rw [G] at ad
 rw [F] at ba
 have nb:∀ {z:Nat} {b:Int},b=(z:Int)->ay b=true->ag z:=fun {z b} e o=>by
  unfold ay at o;rw [e,eo,decide_eq_true_eq] at o;unfold ag;omega
 have S:=nb hu.out G;have U:=nb ht.out F;have I:x<18446744073709551616:=by have:=h.2;rw [hu.out] at this;omega
 have H:y<18446744073709551616:=by have:=h'.2;rw [ht.out] at this;omega
 have bo:=aa fun w=>eL x u w hu h S
 have bz:=aa fun w=>eL y t w ht h' U
 obtain⟨tg,Q⟩:∃ tg,A.St.merge ⟨0,N⟩ (A.bn x y)=tg:=⟨_,rfl⟩;have HT:Hid (tg=⟨0,N+az (x:Int)*az (y:Int)*2^(aP (x:Int)+aP (y:Int)+2148).toNat⟩):=by
  show _=_
  rw [<- Q];unfold A.bn;rw [<- hu.out,<- ht.out,G,F]
  show A.St.merge ⟨0,N⟩ (A.fR u t)=_
  unfold A.fR;rw [iG,if_pos rfl]
 rw [Q];obtain⟨p,l,c,rfl⟩:=hd.shape;have HD:=aa fun L (hb:Below w.heap.size w L)=>hd.below hb
 have T:=aa hv;have H8:=aa (dT w 0 neg (.slice p l c) e);have HB:=aa (dl w 0 neg (.slice p l c) e);have HZ:=aa (iF w 0 neg (.slice p l c) e);have i:=aa (And.intro (And.intro S I) (And.intro U H));obtain⟨c0,c1,c2,c3,d0,d1,d2,d3,f0,f1,f2,f3⟩:=H8.out;have S0:Hid (Three (boxA2 w 0 neg (.slice p l c) e) w.heap.size neg (.slice p l c) e):=H8.out.three;clear h h' Q hd hv S I U H G F nb
 go_enter Tryz.func67,Tryz.ntmps67
 go_wp2_with (first | (go_at_call_of 41 (Value.int IntKind.u64 u);refine (aG (ad.out _)).mono ?_;rintro x L ⟨rfl,rfl⟩) | (go_at_call_of 41 (Value.int IntKind.u64 t);refine (aG (ba.out _)).mono ?_;rintro x L ⟨rfl,rfl⟩))
 go_region_held3 (fun L=>L.cell? ⟨w.heap.size,1,none⟩=some (.bool neg)/\L.cell? ⟨w.heap.size,2,none⟩=some (.slice p l c)/\L.cell? ⟨w.heap.size,3,none⟩=some (.int .i64 e)) (first | exact S0.out | exact S3.out | exact S4.out | exact S5.out | exact S6.out | exact Fd S6.out | go_keep) (first | ((go_at_call_of 74 (Value.int IntKind.u64 u);refine (bo.out _).mono ?_;rintro r w3 ⟨nx,vx,X,ex,rfl,O,hX,B⟩;obtain⟨px,lx,cx,rfl⟩:=O.shape;have bb:=aa (HB.out.drew.trans (B.mono (show w.heap.size<=(boxA2 w 0 neg (.slice p l c) e).heap.size by rw [HZ.out];omega)));have G8:=aa (Cells8.below (gn H8.out) B (show w.heap.size+1<(boxA2 w 0 neg (.slice p l c) e).heap.size by rw [HZ.out];omega));have bs:w.heap.size+2<=w3.heap.size:=(by have h9:=B.size;have h8:(boxA2 w 0 neg (.slice p l c) e).heap.size<=w3.heap.size:=h9;rw [HZ.out] at h8;exact h8);have cd:=aa O;have j:=aa hX;have S3:=aa G8.out.three;clear B O hX)) | ((go_at_call_of 74 (Value.int IntKind.u64 t);refine (bz.out _).mono ?_;rintro r w4 ⟨ny,vy,Y,ey,rfl,K,hY,f⟩;obtain⟨py,ly,cy,rfl⟩:=K.shape;have al:=aa (bb.out.trans (f.mono bb.out.size));have I8:=aa (G8.out.below f (show w.heap.size+1<w3.heap.size by omega));have cf:w.heap.size+2<=w4.heap.size:=Nat.le_trans bs f.size;have ai:=aa (cd.out.below f);have ca:=aa K;have D:=aa hY;have S4:=aa I8.out.three;clear f K hY)) | ((go_at_call 100;refine (tf nx ny (.slice px lx cx) (.slice py ly cy) ex ey X Y w4 ai.out ca.out (by have:=dw j.out.lt;omega) (by have:=dw D.out.lt;omega) (by have:=j.out.lo;omega) (by have:=j.out.hi;omega) (by have:=D.out.lo;omega) (by have:=D.out.hi;omega)).mono ?_;rintro r w5 ⟨nt,vt,Tt,et,rfl,R,bx,Z,am,q⟩;obtain⟨pt,lt,ct,rfl⟩:=R.shape;have d:=aa (Fe j.out D.out i.out.1.2 i.out.2.2 i.out.1.1 i.out.2.1 Z am);have J:=aa (al.out.trans (q.mono al.out.size));have J8:=aa (I8.out.below q (show w.heap.size+1<w4.heap.size by omega));have br:w.heap.size+2<=w5.heap.size:=Nat.le_trans cf q.size;have cc:=aa R;have S5:=aa J8.out.three;clear q R bx Z am)) | ((go_at_call 73;obtain⟨E,hE⟩:∃ E,iY M e Tt et=E:=⟨_,rfl⟩;obtain⟨n,m,kk,a⟩:=OF (nm:=neg) (nx:=nt) T.out.lo T.out.hi d.out.2.1 d.out.2.2.1 (T.out.nd hk).1 d.out.2.2.2.1 hE;refine (pK neg nt (.slice p l c) (.slice pt lt ct) e et E M Tt n m w5 (HD.out _ J.out) cc.out hE a.hn a.hm (by have:=a.hn1;omega) (by have:=a.hm1;omega) (by have:=T.out.nd hk;omega) (by have:=d.out.2.2.2.1;omega) a.had a.hbd).mono ?_;rintro r w6 ⟨g,v',N',E',rfl,P,bh,bc,ab,V⟩;obtain⟨p6,l6,c6,rfl⟩:=P.shape;have bv:Hid (DV 0 g N' E' (N+az (x:Int)*az (y:Int)*2^(aP (x:Int)+aP (y:Int)+2148).toNat) (k+1)):=(by have hT:=Dr (s:=0) (kk:=k+1) (kk':=k+1) a bc ab rfl (by rw [T.out.val];exact IZ T.out.bd d.out.2.2.2.2) (Nat.le_refl _);rw [T.out.val,d.out.1] at hT;exact hT);have bk:=aa (J.out.trans (V.mono J.out.size));have C:=aa (J8.out.below V (show w.heap.size+1<w5.heap.size by omega));have bi:=aa P;have W:=aa (cZ bh br);have S6:=aa C.out.three;have k0:=C.out.d0;have k1:=C.out.d1;have k2:=C.out.d2;have k3:=C.out.d3;have l0:=C.out.f0;have l1:=C.out.f1;have l2:=C.out.f2;have l3:=C.out.f3;clear P bh bc ab V a hE)))
 go_wp2_with fail
 refine bodyPost_ret (v:=.agg #[.int .i64 0,.bool g,.slice p6 l6 c6,.int .i64 E']) (by simp [results,Tryz.results67,go_sem,k0,k1,k2,k3]) rfl ?_
 rw [HT.out];exact⟨g,_,N',E',rfl,lJ bi.out W.out (by omega),Or.inr (cZ W.out (by omega)),bv.out,bX bk.out (by omega)⟩
theorem OG (s:Nat) (neg:Bool) (v:Value) (M:Nat) (e:Int) (N:Int) (k x y:Nat) (u t:Int) (w:World) (f:DN w v M) (d:DV s neg M e N k) (j:oB k) (h:U64 u) (c:U64 t) (b:Hid (u=(x:Int))) (g:Hid (t=(y:Int))) :
  Calls Tryz.prog 67 #[AV (s:Int) neg v e,.int .u64 u,.int .u64 t] w (cw w v M (A.St.merge ⟨s,N⟩ (A.bn x y)) (k+1)):=by
 cases a:(ay u&&ay t) with
 | false=>exact Fc s neg v M e N k x y u t w f d j h c b g a
 | true=>
  rw [Bool.and_eq_true] at a
  by_cases i:s=0
  ·subst i;exact Ff neg v M e N k x y u t w f d j h c b g a.1 a.2
  ·exact Bp s neg v M e N k x y u t w f d i h c b.out g.out a.1 a.2
theorem vG (N:Int):A.cS ⟨0,N⟩=valF N:=by unfold A.cS;rw [if_pos rfl]
theorem Ds (N:Int):A.cS ⟨1,N⟩=9218868437227405312:=by unfold A.cS;dsimp only;rw [if_neg (by decide),if_pos rfl]
theorem Dt (N:Int):A.cS ⟨2,N⟩=18442240474082181120:=by unfold A.cS;dsimp only;rw [if_neg (by decide),if_neg (by decide),if_pos rfl]
theorem Du (N:Int):A.cS ⟨3,N⟩=9221120237041090561:=by unfold A.cS;dsimp only;rw [if_neg (by decide),if_neg (by decide),if_neg (by decide)]
theorem Fg {neg:Bool} {M k:Nat} {e N:Int} (i:DV 0 neg M e N k):bN neg M e false=(valF N:Int):=by
 have a:=i.val;have m:=i.lo;unfold valF
 by_cases b:M=0
 ·rw [b,aT,Int.zero_mul] at a
  rw [b,<- a];unfold bN aI;rw [if_pos rfl,if_pos rfl];rfl
 ·obtain⟨q,j⟩:∃ q,(e+2148).toNat=q:=⟨_,rfl⟩;rw [j] at a
  obtain⟨g,l⟩:=ji (S:=sg neg M) q;have d:sg neg M≠0:=by
   intro c;have:=bH neg M;rw [c] at this;exact b this.symm
  rw [fJ neg e b,<- a];unfold aI;rw [if_neg (fun c=>d (l.1 c)),bg,bH]
  have f:=bf b q e;rw [show e - (q:Int)= -2148 by omega] at f
  rw [f];have h:=kI (neg:=neg) b;cases neg
  ·rw [if_neg (by decide),if_neg (fun c=>by have:=g.1 c;simp at h;omega)];omega
  ·rw [if_pos rfl,if_pos (g.2 (by simpa using h))];omega
theorem OH (s:Nat) (neg:Bool) (v:Value) (M:Nat) (e:Int) (N:Int) (k:Nat) (w:World) (h:DN w v M) (f:DV s neg M e N k) (x:oB k) :
  Calls Tryz.prog 110 #[AV (s:Int) neg v e,.int .i64 1] w fun r j=>r=.returned (.int .u64 (A.cS ⟨s,N⟩:Int))/\Below w.heap.size w j:=by
 obtain⟨p,l,c,rfl⟩:=h.shape;obtain⟨b,a⟩:∃ b:Int,(A.cS ⟨s,N⟩:Int)=b:=⟨_,rfl⟩;rw [a];have t:=f.s3;have g:Hid (Below w.heap.size w (boxA w (s:Int) neg (.slice p l c) e)):=(Below.refl _ _).alloc (Nat.le_refl _) _;rcases (show s=0\/s=1\/s=2\/s=3 by omega) with rfl | rfl | rfl | rfl
 ·have o:=Fg f;have d:(valF N:Int)=b:=by rw [<- a,vG]
  have n:Hid (Calls Tryz.prog 77 #[.agg #[.bool neg,.slice p l c,.int .i64 e]] (boxA w 0 neg (.slice p l c) e) fun r j=>r=.returned (.int .u64 b)/\Below (boxA w 0 neg (.slice p l c) e).heap.size (boxA w 0 neg (.slice p l c) e) j):=by
   rw [<- d,<- o];exact gJ neg _ e M _ (h.below g.out) (by have:=f.nd x;omega) (by have:=f.lo;omega) (by have:=f.hi;omega)
  clear h f a o d
  go_enter Tryz.func110,Tryz.ntmps110
  go_wp2_with fail
  refine n.out.mono ?_
  rintro r y ⟨rfl,q⟩;have m:=aa (g.out.trans (q.mono g.out.size));clear q
  go_wp2_with fail
  go_ret
  exact⟨rfl,m.out⟩
 ·have d:(9218868437227405312:Int)=b:=by rw [<- a,Ds];rfl
  have i:=aa d;clear h f a d
  go_enter Tryz.func110,Tryz.ntmps110
  go_wp2_with fail
  go_ret
  exact⟨bA i.out,g.out⟩
 ·have d:(18442240474082181120:Int)=b:=by rw [<- a,Dt];rfl
  have i:=aa d;have u:=aa fun w=>dQ 9218868437227405312 9218868437227405312 18442240474082181120 w rfl (by unfold U64;omega) rfl
  clear h f a d
  go_enter Tryz.func110,Tryz.ntmps110
  go_wp2_with fail
  refine (u.out _).mono ?_
  rintro r j ⟨rfl,rfl⟩
  go_wp2_with fail
  go_ret
  exact⟨bA i.out,g.out⟩
 ·have d:(9221120237041090561:Int)=b:=by rw [<- a,Du];rfl
  have i:=aa d;clear h f a d
  go_enter Tryz.func110,Tryz.ntmps110
  go_wp2_with fail
  go_ret
  exact⟨bA i.out,g.out⟩
theorem Pn (s:Nat) (neg:Bool) (v:Value) (M:Nat) (e:Int) (N:Int) (k:Nat) (w:World) (g:DN w v M) (h:DV s neg M e N k) (n:oB k) :
  Calls Tryz.prog 69 #[AV (s:Int) neg v e] w fun r m=>r=.returned (.int .u64 (A.cS ⟨s,N⟩:Int))/\Below w.heap.size w m:=by
 obtain⟨p,l,c,rfl⟩:=g.shape;have f:Hid (Below w.heap.size w (boxA w (s:Int) neg (.slice p l c) e)):=(Below.refl _ _).alloc (Nat.le_refl _) _;have j:=aa (OH s neg (.slice p l c) M e N k _ (g.below f.out) h n);obtain⟨b,a⟩:∃ b:Int,(A.cS ⟨s,N⟩:Int)=b:=⟨_,rfl⟩;rw [a] at j ⊢
 clear g h a
 go_enter Tryz.func69,Tryz.ntmps69
 go_wp2_with fail
 refine j.out.mono ?_
 rintro r o ⟨rfl,i⟩;have d:=aa (f.out.trans (i.mono f.out.size));clear i
 go_wp2_with fail
 go_ret
 exact⟨rfl,d.out⟩
structure Held (w wr:World) (B:Nat) (a:A.St) (k:Nat):Prop where
 ex:∃ neg v M e,wr.heap[B]? =some (.cells #[.int .i64 (a.s:Int),.bool neg,v,.int .i64 e] 85 (0,0))/\DN wr v M/\From (B+1) v/\DV a.s neg M e a.N k
 bl:Below w.heap.size w wr
 lo:w.heap.size<=B
 lt:B<wr.heap.size
theorem Jg (w:World):Held w (boxA w 0 false (.slice none 0 0) 0) w.heap.size ⟨0,0⟩ 0:=
 ⟨⟨false,.slice none 0 0,0,0,heap_alloc_new w _,Or.inl ⟨rfl,_,_,rfl⟩,gI _,DV.zero (by decide) 0⟩,(Below.refl _ _).alloc (Nat.le_refl _) _,Nat.le_refl _,by simp⟩
structure Held4 (wr:World) (B:Nat) (s:Int) (neg:Bool) (v:Value) (e:Int):Prop where
 c0:wr.cell? ⟨B,0,none⟩=some (.int .i64 s)
 c1:wr.cell? ⟨B,1,none⟩=some (.bool neg)
 c2:wr.cell? ⟨B,2,none⟩=some v
 c3:wr.cell? ⟨B,3,none⟩=some (.int .i64 e)
 f0:wr.frozen? ⟨B,0,none⟩=false
 f1:wr.frozen? ⟨B,1,none⟩=false
 f2:wr.frozen? ⟨B,2,none⟩=false
 f3:wr.frozen? ⟨B,3,none⟩=false
theorem eF {wr:World} {B:Nat} {s:Int} {neg:Bool} {v:Value} {e:Int} (a:wr.heap[B]? =some (.cells #[.int .i64 s,.bool neg,v,.int .i64 e] 85 (0,0))):Held4 wr B s neg v e:=by
 refine⟨?_,?_,?_,?_,?_,?_,?_,?_⟩
 ·simp [World.cell?,a]
 ·simp [World.cell?,a]
 ·simp [World.cell?,a]
 ·simp [World.cell?,a]
 ·simp [World.frozen?,a]
 ·simp [World.frozen?,a]
 ·simp [World.frozen?,a]
 ·simp [World.frozen?,a]
theorem mQ {w:World} {B:Nat} {s c:Int} {neg a:Bool} {v d:Value} {e b:Int} (h:w.heap[B]? =some (.cells #[.int .i64 s,.bool neg,v,.int .i64 e] 85 (0,0))):(put4 w B c a d b).heap[B]? =some (.cells #[.int .i64 c,.bool a,d,.int .i64 b] 85 (0,0)):=by
 have f:=heap_setCell_same w B 0 _ _ (.int .i64 c) h;have j:=heap_setCell_same _ B 1 _ _ (.bool a) f;have i:=heap_setCell_same _ B 2 _ _ d j;have g:=heap_setCell_same _ B 3 _ _ (.int .i64 b) i;rw [g];rfl
theorem xZ {w wr w1:World} {B k:Nat} {s:Int} {neg:Bool} {v:Value} {M:Nat} {e:Int} {a:A.St} {r:Ending} (z:wr.heap[B]? =some (.cells #[.int .i64 s,.bool neg,v,.int .i64 e] 85 (0,0))) (y:From (B+1) v) (g:Below w.heap.size w wr) (n:w.heap.size<=B) (f:B<wr.heap.size) (h:cw wr v M a k r w1) :
  ∃ b p l c i,r=.returned (AV (a.s:Int) b (.slice p l c) i)/\Held4 w1 B s neg v e/\Held w (put4 w1 B (a.s:Int) b (.slice p l c) i) B a k:=by
 obtain⟨b,C,x,i,rfl,u,j,q,d⟩:=h;obtain⟨p,l,c,rfl⟩:=u.shape;have m:w1.heap[B]? =some (.cells #[.int .i64 s,.bool neg,v,.int .i64 e] 85 (0,0)):=by rw [d.block B f];exact z
 have t:From (B+1) (.slice p l c):=by
  rcases j with⟨j,_⟩| j
  ·rw [j];exact y
  ·exact cZ j f
 have o:Below w.heap.size w w1:=g.trans (d.mono g.size);refine⟨b,p,l,c,i,rfl,eF m,⟨b,_,x,i,mQ m,lJ u t (by omega),t,q⟩,bX o n,n,?_⟩
 have:=d.size;simp;omega
theorem Jh (a:A.St):(⟨a.s,a.N⟩:A.St)=a:=rfl
theorem Jj (q:Nat) (m:Nat) (e:q≠0) (f:m<=1):(2*q+m).log2=q.log2+1:=by
 have a:=Nat.log2_self_le e;have b:q<2^(q.log2+1):=Nat.lt_log2_self;have c:(2*q+m).log2<q.log2+1+1:=(Nat.log2_lt (by omega)).2 (by rw [Nat.pow_succ];omega)
 have d:q.log2+1<=(2*q+m).log2:=(Nat.le_log2 (by omega)).2 (by rw [Nat.pow_succ];omega)
 omega
theorem Jk {q:Nat} (more:Bool):nearR (mant q more) (ko q)=nearR (2*q+more.toNat) (-2149):=by
 have l:more.toNat<=1:=by cases more<;>decide
 by_cases f:q.log2<61
 ·have s:q<2^61:=by
   by_cases d:q=0
   ·rw [d];decide
   ·exact (Nat.log2_lt d).1 f
  have r:=Mw q more;have j:ko q< -1139:=by unfold ko;split<;>omega
  rw [je (by omega) j,je (by omega) (by decide)]
 ·have d:q≠0:=fun c=>by rw [c] at f;exact f (by decide)
  obtain⟨t,h⟩:∃ t,q.log2=t+61:=⟨q.log2 - 61,by omega⟩
  have m:mant q more=bO (2*q+more.toNat) (t+1) false:=by
   unfold mant bO;rw [if_neg d,h,show t+61+3=64+t by omega,Nat.pow_add 2 64 t,Nat.mul_comm q,Nat.mul_mod_mul_left,Nat.mul_div_mul_left _ _ (Nat.two_pow_pos 64),show (2:Nat)^(t+1)=2*2^t by rw [Nat.pow_succ,Nat.mul_comm]]
   have o:(2*q+more.toNat) / (2*2^t)=q / 2^t:=by
    rw [<- Nat.div_div_eq_div_mul]
    congr 1
    omega
   have n:(2*q+more.toNat) % (2*2^t)=2*(q % 2^t)+more.toNat:=by
    have e:=Nat.div_add_mod q (2^t);have i:q % 2^t<2^t:=Nat.mod_lt _ (Nat.two_pow_pos t);generalize q / 2^t=Q at *
    generalize q % 2^t=R at *
    generalize 2^t=T at *
    have g:2*q+more.toNat=2*R+more.toNat+2*T*Q:=by rw [<- e,Nat.mul_add,Nat.mul_assoc];omega
    rw [g,Nat.add_mul_mod_self_left,Nat.mod_eq_of_lt (by omega)]
   rw [o,n];have p:=Nat.two_pow_pos 64;have k:(2^64*(q % 2^t)=0/\more=false)↔(2*(q % 2^t)+more.toNat=0/\(false:Bool)=false):=by
    constructor
    ·rintro⟨a,b⟩;rcases Nat.mul_eq_zero.1 a with c | c
     ·omega
     ·rw [c,b];exact⟨rfl,rfl⟩
    ·rintro⟨a,_⟩;have c:q % 2^t=0:=by omega
     refine⟨by rw [c,Nat.mul_zero],?_⟩
     cases more
     ·rfl
     ·rw [c] at a;exact absurd a (by decide)
   simp only [k]
  have g:ko q=((t+1:Nat):Int)+ -2149:=by unfold ko;rw [if_neg d,h];omega
  rw [m,g,lF (by omega) (by rw [Jj q _ d l,h];omega)]
theorem Jl {q:Nat} {more:Bool} (h:q≠0\/more=true):mant q more≠0:=by
 unfold mant
 by_cases a:q=0
 ·rw [if_pos a];rcases h with h | h
  ·exact absurd a h
  ·rw [h];decide
 ·rw [if_neg a];have e:=Nat.two_pow_pos 64;have b:q*2^64≠0:=fun c=>by
   rcases Nat.mul_eq_zero.1 c with c | c<;>omega
  have d:q.log2+3<=(q*2^64).log2:=by rw [dj a];omega
  exact (cW more d b).2
theorem mR (N:Int) (d:Nat):A.gS N d=if N=0 then 0 else wrd (decide (N<0)) (nearR (aN N.natAbs d 0) (-2149)):=by
 unfold A.gS;have f:aN N.natAbs d 0=2*(N.natAbs / d)+(decide (N.natAbs % d≠0)).toNat:=by
  unfold aN;rw [Nat.pow_zero,Nat.mul_one]
  by_cases a:N.natAbs % d=0<;>simp [a]
 rw [f,<- Jk]
 by_cases b:N=0
 ·rw [if_pos b,b];have:(0:Int).natAbs=0:=rfl;rw [this,Nat.zero_div,Nat.zero_mod]
  rfl
 ·rw [if_neg b];have h:mant (N.natAbs / d) (decide (N.natAbs % d≠0))≠0:=by
   apply Jl
   by_cases a:N.natAbs % d=0
   ·refine Or.inl (fun c=>?_)
    have:=Nat.div_add_mod N.natAbs d;rw [c,a,Nat.mul_zero] at this
    omega
   ·exact Or.inr (by simp [a])
  generalize mant (N.natAbs / d) (decide (N.natAbs % d≠0))=m at *
  generalize ko (N.natAbs / d)=g at *
  unfold aI sgM wrd
  by_cases e:N<0
  ·simp only [e,decide_true,if_true];rw [if_neg (by omega),if_pos (by omega),Int.natAbs_neg,Int.natAbs_natCast]
  ·simp only [e,decide_false,Bool.false_eq_true,if_false];rw [if_neg (by omega),if_neg (by omega),Int.natAbs_natCast]
theorem qm (nx e:Bool) (b f:Value) (ex ey:Int) (w:World) (i:DN w b 0) :
  Calls Tryz.prog 61 #[.agg #[.bool nx,b,.int .i64 ex],.agg #[.bool e,f,.int .i64 ey]] w fun x d=>x=.returned (.int .u64 0)/\Below w.heap.size w d:=by
 have a:Hid (Below w.heap.size w (boxN (boxN w nx b ex) e f ey)):=(aD w nx b ex).trans ((aD (boxN w nx b ex) e f ey).mono (by simp))
 have h:=aa fun d (j:Below w.heap.size w d)=>aY nx b ex 0 true d (i.below j) rfl
 clear i
 go_enter Tryz.func61,Tryz.ntmps61
 go_wp2_with fail
 refine (h.out _ a.out).mono ?_
 rintro x k ⟨rfl,c⟩;have g:=aa (a.out.trans (c.mono a.out.size));clear c
 go_wp2_with fail
 go_ret
 exact⟨rfl,g.out⟩
theorem kO (w:World) (s:Int) (neg:Bool) (v:Value) (e:Int):Three (boxA w s neg v e) w.heap.size neg v e:=⟨by simp,by simp,by simp⟩
theorem nP {w1 d:World} {B b:Nat} {neg:Bool} {v:Value} {e:Int} (h:Three w1 B neg v e) (c:Below b w1 d) (a:B<b):Three d B neg v e:=
 ⟨(c.cell (p:=⟨B,1,none⟩) a).trans h.1,(c.cell (p:=⟨B,2,none⟩) a).trans h.2.1,(c.cell (p:=⟨B,3,none⟩) a).trans h.2.2⟩
theorem Fi {neg:Bool} {M k n:Nat} {e N:Int} (o:DV 0 neg M e N k) (b:M≠0) (hn:0<n) {j:Nat} (x:max 0 (70 - (bl M:Int)+(bl n:Int))=(j:Int)) :
  bN neg (M*2^j / n) (e - j - 0) (decide (0<nd (M*2^j % n)))=(A.gS N n:Int):=by
 have z:=eK b;have y:=eK (show n≠0 by omega)
 have r:=jk b (show n≠0 by omega) (k:=j) (by omega)
 rw [kL _ _ _ r.1,mR];have a:=o.val;have w:=o.lo;obtain⟨q,u⟩:∃ q:Nat,(e+2148).toNat=q:=⟨_,rfl⟩;rw [u] at a
 obtain⟨m,s⟩:=ji (S:=sg neg M) q;have g:sg neg M≠0:=by
  intro c;have:=bH neg M;rw [c] at this;exact b this.symm
 have f:N≠0:=fun c=>g (s.1 (a.trans c))
 have l:N.natAbs=M*2^q:=by rw [<- a,bg,bH]
 have p:=kI (neg:=neg) b;have d:decide (N<0)=neg:=by
  cases neg
  ·exact decide_eq_false (fun c=>by rw [<- a] at c;have:=m.1 c;simp at p;omega)
  ·exact decide_eq_true (by rw [<- a];exact m.2 (by simpa using p))
 have t:2*(M*2^j / n)+(if decide (0<nd (M*2^j % n))=true then 1 else 0)=aN M n j:=by
  unfold aN
  congr 1
  by_cases i:M*2^j % n=0
  ·rw [i];rfl
  ·have:=dt i;rw [if_neg i,if_pos (decide_eq_true (show 0<nd (M*2^j % n) from this))]
 rw [if_neg f,d,l,t,Ji,Nat.add_zero];have v:nearR (aN M n j) (e - (j:Int) - 0 - 1)=nearR (aN M n q) (-2149):=by
  rw [show e - (j:Int) - 0 - 1=(e - 1) - (j:Int) by omega,show (-2149:Int)=(e - 1) - (q:Int) by omega]
  by_cases h:j<=q
  ·exact jj hn h r.2
  ·exact (vH b hn (by omega) (by omega)).symm
 rw [v];unfold gO wrd;cases neg<;>simp
theorem Br (neg:Bool) (v:Value) (M:Nat) (e:Int) (N:Int) (k n:Nat) (w:World) (t:DN w v M) (q:DV 0 neg M e N k) (I:oB k) (hn:2<=n) (u:n<=9223372036854775807) :
  Calls Tryz.prog 110 #[AV 0 neg v e,.int .i64 (n:Int)] w fun r h=>r=.returned (.int .u64 (A.gS N n:Int))/\Below w.heap.size w h:=by
 obtain⟨p,l,c,rfl⟩:=t.shape;obtain⟨i,a⟩:∃ i:Int,(A.gS N n:Int)=i:=⟨_,rfl⟩;rw [a];have E:Hid (Below w.heap.size w (boxA w 0 neg (.slice p l c) e)):=(Below.refl _ _).alloc (Nat.le_refl _) _;have y:=aa fun b=>jR (n:Int) b (by omega) (by omega)
 unfold eC at y
 rw [show decide ((n:Int)<0)=false from decide_eq_false (by omega),Int.natAbs_natCast] at y
 have J:Hid (∀ b o,Below w.heap.size w b->DN b o n->Calls Tryz.prog 61 #[.agg #[.bool neg,.slice p l c,.int .i64 e],.agg #[.bool false,o,.int .i64 0]] b fun x h=>x=.returned (.int .u64 i)/\Below b.heap.size b h):=fun b o G L=>by
  rw [<- a]
  by_cases s:M=0
  ·have K:N=0:=by have:=q.val;rw [s,aT,Int.zero_mul] at this;exact this.symm
   have:=qm neg false (.slice p l c) o e 0 b (by have:=t.below G;rw [s] at this;exact this)
   rw [mR,if_pos K];exact this
  ·obtain⟨j,D⟩:∃ j:Nat,max 0 (70 - (bl M:Int)+(bl n:Int))=(j:Int):=⟨(max 0 (70 - (bl M:Int)+(bl n:Int))).toNat,by omega⟩
   exact jl neg false _ (.slice p l c) o e 0 _ M n j _ b (t.below G) L s (by omega) (by have:=(q.nd I).2;omega) (by have:=bP (N:=n) (k:=2) (by omega);omega) (by have:=q.lo;omega) (by have:=q.hi;omega) (by omega) (by omega) D rfl rfl (Fi q s (by omega) D)
 have Q:((n:Int)==1)=false:=beq_false_of_ne (by omega)
 clear t q a I hn u
 go_enter Tryz.func110,Tryz.ntmps110
 have H:=aa (kO w 0 neg (.slice p l c) e)
 go_wp2_with fail
 go_region_held3 (fun h=>h.cell? ⟨w.heap.size,1,none⟩=some (.bool neg)/\h.cell? ⟨w.heap.size,2,none⟩=some (.slice p l c)/\h.cell? ⟨w.heap.size,3,none⟩=some (.int .i64 e)) (first | exact H.out | exact F.out | exact P.out | go_keep) (first | ((go_at_call 62;refine (y.out _).mono ?_;rintro r O ⟨o,rfl,g,d⟩;obtain⟨R,T,S,rfl⟩:=g.shape;have m:=aa (E.out.drew.trans (d.mono E.out.size));have F:=aa (nP (w1:=(boxA w 0 neg (.slice p l c) e).drew) H.out d (show w.heap.size<(boxA w 0 neg (.slice p l c) e).heap.size by simp));have C:Hid (w.heap.size<O.heap.size):=(Nat.lt_of_lt_of_le (show w.heap.size<(boxA w 0 neg (.slice p l c) e).heap.size by simp) d.size);have z:=aa g;clear d g)) | ((go_at_call 61;refine (J.out _ _ m.out z.out).mono ?_;rintro r U ⟨rfl,f⟩;have B:=aa (m.out.trans (f.mono m.out.size));have P:=aa (nP F.out f C.out);clear f)))
 all_goals
  go_wp2_with fail
  go_ret
  exact⟨rfl,B.out⟩
def aQ (a:A.St) (n:Nat):Nat:=if a.s=0 then A.gS a.N n else A.cS a
theorem Bs (s:Nat) (neg:Bool) (v:Value) (M:Nat) (e:Int) (N n:Int) (w:World) (g:DN w v M) (j:s=1\/s=2\/s=3) :
  Calls Tryz.prog 110 #[AV (s:Int) neg v e,.int .i64 n] w fun r i=>r=.returned (.int .u64 (A.cS ⟨s,N⟩:Int))/\Below w.heap.size w i:=by
 obtain⟨p,l,c,rfl⟩:=g.shape;obtain⟨b,a⟩:∃ b:Int,(A.cS ⟨s,N⟩:Int)=b:=⟨_,rfl⟩;rw [a];have h:Hid (Below w.heap.size w (boxA w (s:Int) neg (.slice p l c) e)):=(Below.refl _ _).alloc (Nat.le_refl _) _;rcases j with rfl | rfl | rfl
 ·have d:(9218868437227405312:Int)=b:=by rw [<- a,Ds];rfl
  have f:=aa d;clear g a d
  go_enter Tryz.func110,Tryz.ntmps110
  go_wp2_with fail
  go_ret
  exact⟨bA f.out,h.out⟩
 ·have d:(18442240474082181120:Int)=b:=by rw [<- a,Dt];rfl
  have f:=aa d;have k:=aa fun w=>dQ 9218868437227405312 9218868437227405312 18442240474082181120 w rfl (by unfold U64;omega) rfl
  clear g a d
  go_enter Tryz.func110,Tryz.ntmps110
  go_wp2_with fail
  refine (k.out _).mono ?_
  rintro r i ⟨rfl,rfl⟩
  go_wp2_with fail
  go_ret
  exact⟨bA f.out,h.out⟩
 ·have d:(9221120237041090561:Int)=b:=by rw [<- a,Du];rfl
  have f:=aa d;clear g a d
  go_enter Tryz.func110,Tryz.ntmps110
  go_wp2_with fail
  go_ret
  exact⟨bA f.out,h.out⟩
theorem Po (s:Nat) (neg:Bool) (v:Value) (M:Nat) (e:Int) (N:Int) (k n:Nat) (w:World) (d:DN w v M) (b:DV s neg M e N k) (f:oB k) (hn:1<=n) (a:n<=9223372036854775807) :
  Calls Tryz.prog 110 #[AV (s:Int) neg v e,.int .i64 (n:Int)] w fun r h=>r=.returned (.int .u64 (aQ ⟨s,N⟩ n:Int))/\Below w.heap.size w h:=by
 have i:=b.s3;unfold aQ;dsimp only
 by_cases c:s=0
 ·rw [if_pos c];subst c
  by_cases g:n=1
  ·subst g;rw [A.EZ];have:=OH 0 neg v M e N k w d b f;rw [vG] at this
   exact this
  ·exact Br neg v M e N k n w d b f (by omega) a
 ·rw [if_neg c];exact Bs s neg v M e N (n:Int) w d (by omega)
end Go.Proofs.YtfdddijdjpijbaaGreat
