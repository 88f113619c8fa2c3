/-  -/
import Derived.Test.YtfdddijdjpijbaaGreatHax
import Derived.Test.YtfdddijdjpijbaaGreatHbj
import Derived.Test.YtfdddijdjpijbaaGreatHar
import Derived.Test.YtfdddijdjpijbaaGreatHay
import Derived.Test.YtfdddijdjpijbaaGreatHaz
set_option maxHeartbeats 3200000
set_option maxRecDepth 10000
namespace Go.Proofs.YtfdddijdjpijbaaGreat
open Go.RowKit
abbrev AV (s:Int) (neg:Bool) (v:Value) (e:Int):Value:=.agg #[.int .i64 s,.bool neg,v,.int .i64 e]
abbrev boxA (w:World) (s:Int) (neg:Bool) (v:Value) (e:Int):World:=w.alloc (.cells #[.int .i64 s,.bool neg,v,.int .i64 e] 85)
abbrev boxA2 (w:World) (s:Int) (neg:Bool) (v:Value) (e:Int):World:=boxA (boxA w s neg v e) 0 false (.slice none 0 0) 0
theorem iF (w:World) (s:Int) (neg:Bool) (v:Value) (e:Int):(boxA2 w s neg v e).heap.size=w.heap.size+2:=by simp
theorem dl (w:World) (s:Int) (neg:Bool) (v:Value) (e:Int):Below w.heap.size w (boxA2 w s neg v e):=
 ((Below.refl _ _).alloc (Nat.le_refl _) _).trans (((Below.refl _ _).alloc (Nat.le_refl _) _).mono (by simp))
structure Cells8 (w' w:World) (s:Int) (neg:Bool) (v:Value) (e:Int):Prop where
 c0:w'.cell? ⟨w.heap.size,0,none⟩=some (.int .i64 s)
 c1:w'.cell? ⟨w.heap.size,1,none⟩=some (.bool neg)
 c2:w'.cell? ⟨w.heap.size,2,none⟩=some v
 c3:w'.cell? ⟨w.heap.size,3,none⟩=some (.int .i64 e)
 d0:w'.cell? ⟨w.heap.size+1,0,none⟩=some (.int .i64 0)
 d1:w'.cell? ⟨w.heap.size+1,1,none⟩=some (.bool false)
 d2:w'.cell? ⟨w.heap.size+1,2,none⟩=some (.slice none 0 0)
 d3:w'.cell? ⟨w.heap.size+1,3,none⟩=some (.int .i64 0)
 f0:w'.frozen? ⟨w.heap.size+1,0,none⟩=false
 f1:w'.frozen? ⟨w.heap.size+1,1,none⟩=false
 f2:w'.frozen? ⟨w.heap.size+1,2,none⟩=false
 f3:w'.frozen? ⟨w.heap.size+1,3,none⟩=false
theorem dT (w:World) (s:Int) (neg:Bool) (v:Value) (e:Int):Cells8 (boxA2 w s neg v e) w s neg v e:=by
 have b:Below (boxA w s neg v e).heap.size (boxA w s neg v e) (boxA2 w s neg v e):=(Below.refl _ _).alloc (Nat.le_refl _) _;have c:w.heap.size<(boxA w s neg v e).heap.size:=by simp
 have a:w.heap.size+1=(boxA w s neg v e).heap.size:=by simp
 refine⟨?_,?_,?_,?_,?_,?_,?_,?_,?_,?_,?_,?_⟩
 ·rw [b.cell (p:=⟨w.heap.size,0,none⟩) c];simp
 ·rw [b.cell (p:=⟨w.heap.size,1,none⟩) c];simp
 ·rw [b.cell (p:=⟨w.heap.size,2,none⟩) c];simp
 ·rw [b.cell (p:=⟨w.heap.size,3,none⟩) c];simp
 ·rw [a];simp
 ·rw [a];simp
 ·rw [a];simp
 ·rw [a];simp
 ·rw [a];exact World.frozen?_alloc_new _ _ _ _
 ·rw [a];exact World.frozen?_alloc_new _ _ _ _
 ·rw [a];exact World.frozen?_alloc_new _ _ _ _
 ·rw [a];exact World.frozen?_alloc_new _ _ _ _
theorem Cells8.below {w1 f w:World} {s:Int} {neg:Bool} {v:Value} {e:Int} {b:Nat} (h:Cells8 w1 w s neg v e) (a:Below b w1 f) (c:w.heap.size+1<b):Cells8 f w s neg v e:=by
 have d:w.heap.size<b:=by omega
 exact⟨(a.cell (p:=⟨w.heap.size,0,none⟩) d).trans h.c0,(a.cell (p:=⟨w.heap.size,1,none⟩) d).trans h.c1,(a.cell (p:=⟨w.heap.size,2,none⟩) d).trans h.c2,(a.cell (p:=⟨w.heap.size,3,none⟩) d).trans h.c3,
  (a.cell (p:=⟨w.heap.size+1,0,none⟩) c).trans h.d0,(a.cell (p:=⟨w.heap.size+1,1,none⟩) c).trans h.d1,(a.cell (p:=⟨w.heap.size+1,2,none⟩) c).trans h.d2,(a.cell (p:=⟨w.heap.size+1,3,none⟩) c).trans h.d3,
  (a.frozen (p:=⟨w.heap.size+1,0,none⟩) c).trans h.f0,(a.frozen (p:=⟨w.heap.size+1,1,none⟩) c).trans h.f1,(a.frozen (p:=⟨w.heap.size+1,2,none⟩) c).trans h.f2,(a.frozen (p:=⟨w.heap.size+1,3,none⟩) c).trans h.f3⟩
abbrev put4 (w:World) (b:Nat) (s:Int) (neg:Bool) (v:Value) (e:Int):World:=
 (((w.setCell ⟨b,0,none⟩ (.int .i64 s)).setCell ⟨b,1,none⟩ (.bool neg)).setCell ⟨b,2,none⟩ v).setCell ⟨b,3,none⟩ (.int .i64 e)
theorem bX {w w1:World} {B b:Nat} {s:Int} {neg:Bool} {v:Value} {e:Int} (h:Below B w w1) (a:B<=b):Below B w (put4 w1 b s neg v e):=
 (((h.setCell (p:=⟨b,0,none⟩) a _).setCell (p:=⟨b,1,none⟩) a _).setCell (p:=⟨b,2,none⟩) a _).setCell (p:=⟨b,3,none⟩) a _
theorem lJ {w:World} {b B M:Nat} {s:Int} {neg:Bool} {v u:Value} {e:Int} (h:DN w u M) (d:From B u) (c:b<B):DN (put4 w b s neg v e) u M:=
 (((h.set d (a:=⟨b,0,none⟩) c _).set d (a:=⟨b,1,none⟩) c _).set d (a:=⟨b,2,none⟩) c _).set d (a:=⟨b,3,none⟩) c _
theorem Pm (s:Nat) (t:Nat) (b:s<=3) (a:t=1\/t=2):A.mt s t=if s=0\/s=t then t else 3:=by
 unfold A.mt;rcases a with rfl | rfl
 all_goals rcases (show s=0\/s=1\/s=2\/s=3 by omega) with rfl | rfl | rfl | rfl<;>decide
theorem MV (s:Nat) (neg b:Bool) (v:Value) (e:Int) (w:World) (c:s<=3) :
  Calls Tryz.prog 150 #[AV (s:Int) neg v e,.bool b] w fun x a=>x=.returned (AV (A.mt s (if b then 2 else 1):Nat) false (.slice none 0 0) 0)/\Below w.heap.size w a:=by
 cases b
 all_goals
  rcases (show s=0\/s=1\/s=2\/s=3 by omega) with rfl | rfl | rfl | rfl
  all_goals
   go_enter Tryz.func150,Tryz.ntmps150
   go_wp2_with fail
   refine bodyPost_ret (v:=.agg #[.int .i64 _,.bool false,.slice none 0 0,.int .i64 0]) (by simp [results,Tryz.results150,go_sem];rfl) rfl ⟨rfl,?_⟩
   exact ((Below.refl _ _).alloc (Nat.le_refl _) _).trans (((Below.refl _ _).alloc (Nat.le_refl _) _).mono (by simp))
structure DV (s:Nat) (neg:Bool) (M:Nat) (e N:Int) (k:Nat):Prop where
 s3:s<=3
 lo: -2148<=e
 hi:e<=2000
 val:sg neg M*((2^(e+2148).toNat:Nat):Int)=N
 none:s≠0->N=0
 bd:∃ K,K=4200/\N.natAbs<=k*2^K
theorem DV.zero {s:Nat} (h:s<=3) (k:Nat):DV s false 0 0 0 k:=
 ⟨h,by decide,by decide,by rw [aT,Int.zero_mul],fun _=>rfl,4200,rfl,Nat.zero_le _⟩
theorem DV.mono {s:Nat} {neg:Bool} {M:Nat} {e N:Int} {k a:Nat} (h:DV s neg M e N k) (c:k<=a):DV s neg M e N a:=by
 obtain⟨K,d,b⟩:=h.bd;exact⟨h.s3,h.lo,h.hi,h.val,h.none,K,d,Nat.le_trans b (Nat.mul_le_mul_right _ c)⟩
theorem DV.le {s:Nat} {neg:Bool} {M:Nat} {e N:Int} {k:Nat} (h:DV s neg M e N k):M<=N.natAbs:=by
 rw [<- h.val,Int.natAbs_mul,bH,Int.natAbs_natCast];exact Nat.le_mul_of_pos_right _ (Nat.two_pow_pos _)
def oB (k:Nat):Prop:=∃ j,j=150/\k<=2^j
theorem oS {k:Nat} (h:k<=1000):oB k:=⟨150,rfl,Nat.le_trans h (by decide)⟩
theorem DV.nd {s:Nat} {neg:Bool} {M:Nat} {e N:Int} {k:Nat} (h:DV s neg M e N k) (a:oB k):nd M<=1000/\nd M<=137:=by
 obtain⟨K,i,m⟩:=h.bd;obtain⟨j,g,a⟩:=a;have d:M<2^(K+j+1):=by
  have f:=h.le;have b:k*2^K<=2^j*2^K:=Nat.mul_le_mul_right _ a;rw [<- Nat.pow_add] at b
  rw [Nat.pow_succ,Nat.add_comm K j];have l:=Nat.two_pow_pos (j+K);generalize 2^(j+K)=P at *
  omega
 obtain⟨c,n⟩:∃ c:Nat,c=137:=⟨_,rfl⟩;have:=bP (N:=M) (k:=c) (Nat.lt_of_lt_of_le d (Nat.pow_le_pow_right (by decide) (by omega)))
 omega
structure PL (M X:Nat) (nm nx:Bool) (e ex E:Int) (n m:Nat) (S T:Int) (k:Nat):Prop where
 hn:M≠0->e - E=(n:Int)
 hm:X≠0->ex - E=(m:Int)
 hn1:n<=5000
 hm1:m<=5000
 lo: -2148<=E
 hi:E<=2000
 hk:E+2148=(k:Int)
 had:nd (M*2^n)<=10000000
 hbd:nd (X*2^m)<=10000000
 val:S*((2^k:Nat):Int)=T
theorem xY {M n:Nat} (h:nd M<=1000) (hn:n<=5000):nd (M*2^n)<=10000000:=by
 have a:M*2^n<2^(32*nd M)*2^n:=Nat.mul_lt_mul_of_pos_right (dh M) (Nat.two_pow_pos _);rw [<- Nat.pow_add] at a
 have:=bP (N:=M*2^n) (k:=nd M+n / 32+1) (Nat.lt_of_lt_of_le a (Nat.pow_le_pow_right (by decide) (by omega)))
 omega
theorem tC {M n k:Nat} {neg:Bool} {e:Int} (b:M≠0->n+k=(e+2148).toNat):sg neg (M*2^n)*((2^k:Nat):Int)=sg neg M*((2^(e+2148).toNat:Nat):Int):=by
 rw [<- iA,<- iA,Nat.mul_assoc,<- Nat.pow_add]
 by_cases a:M=0
 ·rw [a,Nat.zero_mul,Nat.zero_mul]
 ·rw [b a]
theorem OF {M X:Nat} {nm nx:Bool} {e ex E:Int} (l: -2148<=e) (j:e<=2000) (p: -2148<=ex) (i:ex<=2000) (g:nd M<=1000) (q:nd X<=1000) (r:iY M e X ex=E) :
  ∃ n m k,PL M X nm nx e ex E n m (sg nm (M*2^n)+sg nx (X*2^m)) (sg nm M*((2^(e+2148).toNat:Nat):Int)+sg nx X*((2^(ex+2148).toNat:Nat):Int)) k:=by
 have c: -2148<=E/\E<=2000/\(M≠0->E<=e)/\(X≠0->E<=ex):=by
  rw [<- r];unfold iY
  by_cases a:M=0
  ·rw [if_pos a];refine⟨p,i,fun h=>absurd a h,fun _=>Int.le_refl _⟩
  ·rw [if_neg a]
   by_cases b:X=0
   ·rw [if_pos b];exact⟨l,j,fun _=>Int.le_refl _,fun h=>absurd b h⟩
   ·rw [if_neg b];refine⟨by omega,by omega,fun _=>by omega,fun _=>by omega⟩
 obtain⟨s,o,d,f⟩:=c;refine⟨(e - E).toNat,(ex - E).toNat,(E+2148).toNat,fun h=>by have:=d h;omega,fun h=>by have:=f h;omega,by omega,by omega,s,o,by omega,xY g (by omega),xY q (by omega),?_⟩
 rw [Int.add_mul,tC (e:=e) (fun h=>by have:=d h;omega),tC (e:=ex) (fun h=>by have:=f h;omega)]
theorem Dr {s M X i n m k kk kk':Nat} {nm nx a:Bool} {e ex E f T:Int} (h:PL M X nm nx e ex E n m (sg nm (M*2^n)+sg nx (X*2^m)) T k) (u:sg a i=sg nm (M*2^n)+sg nx (X*2^m)) (t:f=E\/(f=0/\i=0)) (g:s=0) (j:∃ K,K=4200/\T.natAbs<=kk*2^K) (d:kk<=kk'):DV s a i f T kk':=by
 obtain⟨K,o,j⟩:=j;have b:=h.val;rw [<- u] at b
 have q:=h.lo;have r:=h.hi;have v:=h.hk;refine⟨by omega,by omega,by omega,?_,fun c=>absurd g c,K,o,Nat.le_trans j (Nat.mul_le_mul_right _ d)⟩
 rcases t with l | ⟨l,p⟩
 ·rw [l,show (E+2148).toNat=k by omega];exact b
 ·rw [p,aT,Int.zero_mul] at b ⊢;exact b
theorem ql {p:Nat} {neg:Bool} {N:Nat} {e:Int} (h:OfR p neg N e) (i:p<18446744073709551616) (hn:ag p):az (p:Int)*((2^(aP (p:Int)+2148).toNat:Nat):Int)=sg neg N*((2^(e+2148).toNat:Nat):Int)/\ay (p:Int)=true/\(N≠0->az (p:Int)=sg neg N/\aP (p:Int)=e)/\(N=0->az (p:Int)=0):=by
 have b:=eo p;have j:=hn;unfold ag at j
 have f:ay (p:Int)=true:=by unfold ay;rw [b];simp;omega
 have d:(N≠0->az (p:Int)=sg neg N/\aP (p:Int)=e)/\(N=0->az (p:Int)=0):=by
  refine⟨fun a=>?_,fun a=>?_⟩
  ·obtain⟨g,m⟩:=h.mag a;have k:p % 9223372036854775808≠0:=by
    intro o;rw [o] at g;exact a (by rw [g];decide)
   have n:gz ((p % 9223372036854775808:Nat):Int)=(mg (p % 9223372036854775808):Int):=by
    generalize p % 9223372036854775808=r at *
    unfold gz mg
    by_cases c:r<4503599627370496
    ·rw [if_pos c,if_pos (by omega)]
    ·rw [if_neg c,if_neg (by omega)];omega
   have t:kE ((p % 9223372036854775808:Nat):Int)= -1074+(pl (p % 9223372036854775808):Int):=by
    generalize p % 9223372036854775808=r at *
    unfold kE pl
    by_cases c:r<4503599627370496
    ·rw [if_pos (by omega)];omega
    ·rw [if_neg (by omega)];omega
   constructor
   ·unfold az;rw [f,if_pos rfl,b,n,<- g,gh i,<- h.sgn a]
    rfl
   ·unfold aP;rw [f,b,t,<- m,show decide (((p % 9223372036854775808:Nat):Int)≠0)=true by simpa using fun h=>k (by omega)]
    rfl
  ·have q:p % 9223372036854775808=0:=by
    have:=h.val;rw [a,Nat.zero_mul] at this
    have l:=fD (r:=p % 9223372036854775808) (s:=0);rw [bp] at l
    exact l.1 this.symm
   unfold az;rw [f,if_pos rfl,b,q,show gz ((0:Nat):Int)=0 from rfl]
   split<;>rfl
 refine⟨?_,f,d⟩
 by_cases a:N=0
 ·rw [d.2 a,a,aT,Int.zero_mul,Int.zero_mul]
 ·rw [(d.1 a).1,(d.1 a).2]
theorem MW {x:Nat} {nx:Bool} {X:Nat} {ex:Int} (h:OfR x nx X ex) (a:x<18446744073709551616) (hn:ag x):sg nx X*((2^(ex+2148).toNat:Nat):Int)=A.nN (x:Int):=by
 rw [<- (ql h a hn).1];unfold A.nN;rw [Int.natCast_pow];rfl
theorem IY {x:Nat} {nx:Bool} {X:Nat} {ex:Int} (h:OfR x nx X ex):∃ K,K=4200/\(sg nx X*((2^(ex+2148).toNat:Nat):Int)).natAbs<=1*2^K:=by
 refine⟨4200,rfl,?_⟩
 obtain⟨K,b⟩:∃ K:Nat,K=4200:=⟨_,rfl⟩;rw [<- b];rw [Int.natAbs_mul,bH,Int.natAbs_natCast,Nat.one_mul];have d:=h.lt;have c:=h.hi;have a:X*2^(ex+2148).toNat<=2^53*2^(ex+2148).toNat:=Nat.mul_le_mul_right _ (by omega)
 rw [<- Nat.pow_add] at a
 exact Nat.le_trans a (Nat.pow_le_pow_right (by decide) (by omega))
theorem IZ {A B:Int} {k:Nat} (f:∃ K,K=4200/\A.natAbs<=k*2^K) (d:∃ K,K=4200/\B.natAbs<=1*2^K):∃ K,K=4200/\(A+B).natAbs<=(k+1)*2^K:=by
 obtain⟨K,g,a⟩:=f;obtain⟨c,e,b⟩:=d;have:c=K:=by omega
 subst this;refine⟨c,g,?_⟩
 rw [Nat.add_mul];generalize k*2^c=P at *
 generalize 1*2^c=Q at *
 omega
theorem gn {w1 w:World} {s:Int} {neg:Bool} {v:Value} {e:Int} (h:Cells8 w1 w s neg v e):Cells8 w1.drew w s neg v e:=⟨h.c0,h.c1,h.c2,h.c3,h.d0,h.d1,h.d2,h.d3,h.f0,h.f1,h.f2,h.f3⟩
theorem cZ {A B:Nat} {v:Value} (h:From B v) (b:A<=B):From A v:=fun a l c e=>Nat.le_trans b (h a l c e)
def cw (w:World) (v:Value) (M:Nat) (a:A.St) (k:Nat) (r:Ending) (f:World):Prop:=
 ∃ b c d e,r=.returned (AV (a.s:Int) b c e)/\DN f c d/\(c=v/\d=M\/From w.heap.size c)/\DV a.s b d e a.N k/\Below w.heap.size w f
theorem nO {w b:World} {v:Value} {M:Nat} {a:A.St} {k:Nat} {s:Int} (f:(a.s:Int)=s) (c:a.s<=3) (d:a.N=0) (e:Below w.heap.size w b) :
  cw w v M a k (.returned (AV s false (.slice none 0 0) 0)) b:=by
 refine⟨false,.slice none 0 0,0,0,by rw [f],Or.inl ⟨rfl,_,_,rfl⟩,Or.inr (gI _),by rw [d];exact DV.zero c k,e⟩
theorem Fa (s:Nat) (N:Int) (a:s<=3):A.St.merge ⟨s,N⟩ ⟨3,0⟩=⟨3,0⟩:=by
 unfold A.St.merge A.mt;rcases (show s=0\/s=1\/s=2\/s=3 by omega) with rfl | rfl | rfl | rfl<;>rfl
theorem iG {s:Nat} {N M:Int}:A.St.merge ⟨s,N⟩ ⟨0,M⟩=⟨s,if s=0 then N+M else 0⟩:=by
 unfold A.St.merge;have e:A.mt s 0=s:=by simp [A.mt]
 simp only [e]
theorem Ja {u:Int} (h:ah u=true):A.dI u=⟨3,0⟩:=by
 have a:ay u=false:=by
  unfold ay;unfold ah at h
  rw [decide_eq_true_eq] at h
  rw [decide_eq_false_iff_not];omega
 unfold A.dI A.endN;rw [a,h];rfl
theorem Jb {u:Int} (h:aX u=true):A.dI u=⟨if sgB u then 2 else 1,0⟩:=by
 have a:szI u=9218868437227405312:=by unfold aX at h;simpa using h
 have c:ay u=false:=by unfold ay;rw [a];rfl
 have b:ah u=false:=by unfold ah;rw [a];rfl
 unfold A.dI A.endN;rw [c,b];rfl
theorem Jc (s:Nat) (neg:Bool) (v:Value) (M:Nat) (e:Int) (N:Int) (k:Nat) (u:Int) (w:World) (i:s<=3) (h:U64 u) (hn:ah u=true) :
  Calls Tryz.prog 109 #[AV (s:Int) neg v e,.int .u64 u] w (cw w v M (A.St.merge ⟨s,N⟩ (A.dI u)) k):=by
 have f:=aa (aj u · h);rw [hn] at f
 obtain⟨c,b⟩:∃ c,A.St.merge ⟨s,N⟩ (A.dI u)=c:=⟨_,rfl⟩;have d:Hid (c=⟨3,0⟩):=by show _=_;rw [<- b,Ja hn,Fa s N i]
 rw [b];have g:=aa (dT w (s:Int) neg v e);have n:=aa (dl w (s:Int) neg v e);obtain⟨c0,c1,c2,c3,o,l,p,m,t,y,j,r⟩:=g.out;clear h hn b
 go_enter Tryz.func109,Tryz.ntmps109
 go_wp2_with fail
 refine (aG (f.out _)).mono ?_
 rintro x q ⟨rfl,rfl⟩
 go_wp2_with fail
 refine bodyPost_ret (v:=.agg #[.int .i64 3,.bool false,.slice none 0 0,.int .i64 0]) (by simp [results,Tryz.results109,go_sem]) rfl ?_
 exact nO (v:=v) (M:=M) (a:=c) (k:=k) (s:=3) (by rw [d.out];rfl) (by rw [d.out];decide) (by rw [d.out]) (((Below.refl _ _).alloc (Nat.le_refl _) _).trans (((Below.refl _ _).alloc (Nat.le_refl _) _).mono (by simp)))
theorem Jd (s:Nat) (neg:Bool) (v:Value) (M:Nat) (e:Int) (N:Int) (k:Nat) (u:Int) (w:World) (B:s<=3) (h:U64 u) (hn:ah u=false) (hi:aX u=true) :
  Calls Tryz.prog 109 #[AV (s:Int) neg v e,.int .u64 u] w (cw w v M (A.St.merge ⟨s,N⟩ (A.dI u)) k):=by
 have E:=aa (aj u · h);have F:=aa (av u · h);rw [hn] at E
 rw [hi] at F
 obtain⟨b,o⟩:∃ b,sgB u=b:=⟨_,rfl⟩;have y:Hid (∀ w,Calls Tryz.prog 151 #[.int .u64 u] w fun e t=>e=.returned (.bool b)/\w=t):=fun w=>by
  have:=bZ u w;rw [o] at this
  exact aG this
 obtain⟨q,g⟩:∃ q,A.St.merge ⟨s,N⟩ (A.dI u)=q:=⟨_,rfl⟩;obtain⟨m,l⟩:∃ m:Nat,A.mt s (if b then 2 else 1)=m:=⟨_,rfl⟩
 have j:m<=3:=by rw [<- l];exact A.OD B (by split<;>omega)
 have n:m≠0:=by
  rw [<- l,Pm s _ B (by cases b<;>simp)]
  cases b<;>simp<;>split<;>omega
 have r:Hid (q=⟨m,0⟩):=by
  show _=_
  rw [<- g,Jb hi,o];unfold A.St.merge;dsimp only;rw [l,if_neg n]
 rw [g];have c:=aa fun w=>MV s neg b v e w B
 rw [l] at c
 obtain⟨p,i⟩:∃ p:Int,(m:Int)=p:=⟨_,rfl⟩;rw [i] at c
 have H:=aa fun (L:World) (o:Below w.heap.size w L)=>nO (v:=v) (M:=M) (a:=q) (k:=k) (s:=p) (by rw [r.out];exact i) (by rw [r.out];exact j) (by rw [r.out]) o
 have D:=aa (dT w (s:Int) neg v e);have J:=aa (dl w (s:Int) neg v e);have C:=aa (iF w (s:Int) neg v e);obtain⟨c0,c1,c2,c3,V,R,W,U,f0,f1,Q,Z⟩:=D.out;clear h hn hi g o l n j i r
 go_enter Tryz.func109,Tryz.ntmps109
 go_wp2_with fail
 refine (aG (E.out _)).mono ?_
 rintro x t ⟨rfl,rfl⟩
 go_wp2_with fail
 refine (aG (F.out _)).mono ?_
 rintro x t ⟨rfl,rfl⟩
 go_wp2_with fail
 go_region_with (first | ((go_at_call 151;refine (y.out _).mono ?_;rintro x t ⟨rfl,rfl⟩)) | ((go_at_call 150;refine (c.out _).mono ?_;rintro x Y ⟨rfl,f⟩;have z:=aa (J.out.drew.trans (f.mono (show w.heap.size<=(boxA2 w (s:Int) neg v e).heap.size by rw [C.out];omega)));have d:=aa (Cells8.below (gn D.out) f (show w.heap.size+1<(boxA2 w (s:Int) neg v e).heap.size by rw [C.out];omega));have K:=d.out.d0;have O:=d.out.d1;have G:=d.out.d2;have I:=d.out.d3;have S:=d.out.f0;have P:=d.out.f1;have T:=d.out.f2;have X:=d.out.f3;clear f)))
 all_goals
  go_wp2_with fail
  refine bodyPost_ret (v:=.agg #[.int .i64 p,.bool false,.slice none 0 0,.int .i64 0]) (by simp [results,Tryz.results109,go_sem,K,O,G,I]) rfl ?_
  exact H.out _ (bX z.out (by omega))
theorem Fb (s:Nat) (neg:Bool) (v:Value) (M:Nat) (e:Int) (N:Int) (k x:Nat) (u:Int) (w:World) (i:DN w v M) (g:DV s neg M e N k) (a:s≠0) (h:U64 u) (hn:ah u=false) (hi:aX u=false) (j:u=(x:Int)) :
  Calls Tryz.prog 109 #[AV (s:Int) neg v e,.int .u64 u] w (cw w v M (A.St.merge ⟨s,N⟩ (A.dI u)) (k+1)):=by
 have n:=aa (aj u · h);have o:=aa (av u · h);rw [hn] at n
 rw [hi] at o
 obtain⟨f,b⟩:∃ f,A.St.merge ⟨s,N⟩ (A.dI u)=f:=⟨_,rfl⟩;have q:Hid (f=⟨s,N⟩):=by
  show _=_
  have t:ay u=true:=by
   have:=fK j hn hi;unfold ag at this
   unfold ay;rw [j,eo];simp;omega
  have r:A.dI u=⟨0,A.nN u⟩:=by unfold A.dI;rw [t];rfl
  rw [<- b,r,iG,if_neg a,g.none a]
 rw [b];obtain⟨p,l,c,rfl⟩:=i.shape;have D:=aa i;have z:=aa (g.mono (show k<=k+1 by omega))
 have B:(((s:Int) !=0))=true:=by simp;omega
 have m:((s:Int)==0)=false:=by simp;omega
 have y:=aa (dT w (s:Int) neg (.slice p l c) e);have H:=aa (dl w (s:Int) neg (.slice p l c) e);obtain⟨c0,c1,c2,c3,I,F,J,G,L,O,E,K⟩:=y.out;clear h hn hi b i g j a
 go_enter Tryz.func109,Tryz.ntmps109
 go_wp2_with fail
 refine (aG (n.out _)).mono ?_
 rintro x C ⟨rfl,rfl⟩
 go_wp2_with fail
 refine (aG (o.out _)).mono ?_
 rintro x C ⟨rfl,rfl⟩
 go_wp2_with fail
 refine bodyPost_ret (v:=.agg #[.int .i64 (s:Int),.bool neg,.slice p l c,.int .i64 e]) (by simp [results,Tryz.results109,go_sem]) rfl ?_
 have d:Below w.heap.size w ((w.alloc (.cells #[.int .i64 (s:Int),.bool neg,.slice p l c,.int .i64 e] 85)).alloc (.cells #[.int .i64 (s:Int),.bool neg,.slice p l c,.int .i64 e] 85)):=((Below.refl _ _).alloc (Nat.le_refl _) _).trans (((Below.refl _ _).alloc (Nat.le_refl _) _).mono (by simp))
 rw [q.out];exact⟨neg,.slice p l c,M,e,rfl,D.out.below d,Or.inl ⟨rfl,rfl⟩,z.out,d⟩
theorem Je (neg:Bool) (v:Value) (M:Nat) (e:Int) (N:Int) (k x:Nat) (u:Int) (w:World) (Y:DN w v M) (hv:DV 0 neg M e N k) (Z:oB k) (h:U64 u) (hn:ah u=false) (hi:aX u=false) (H:Hid (u=(x:Int))) :
  Calls Tryz.prog 109 #[AV 0 neg v e,.int .u64 u] w (cw w v M (A.St.merge ⟨0,N⟩ (A.dI u)) (k+1)):=by
 have HN:=aa (aj u · h);have HI:=aa (av u · h);rw [hn] at HN
 rw [hi] at HI
 have g:=fK H.out hn hi;have j:x<18446744073709551616:=by have:=h.2;rw [H.out] at this;omega
 have HO:=aa fun w=>eL x u w H h g
 obtain⟨W,z⟩:∃ W,A.St.merge ⟨0,N⟩ (A.dI u)=W:=⟨_,rfl⟩;have HT:Hid (W=⟨0,N+A.nN (x:Int)⟩):=by
  show _=_
  have h1:ay u=true:=by
   unfold ag at g
   unfold ay;rw [H.out,eo];simp;omega
  have h2:A.dI u=⟨0,A.nN u⟩:=by unfold A.dI;rw [h1];rfl
  rw [<- z,h2,iG,if_pos rfl,H.out]
 rw [z];obtain⟨p,l,c,rfl⟩:=Y.shape;have HD:=aa fun Q (hb:Below w.heap.size w Q)=>Y.below hb
 have o:=aa hv;have H8:=aa (dT w 0 neg (.slice p l c) e);have HB:=aa (dl w 0 neg (.slice p l c) e);have O:=aa (iF w 0 neg (.slice p l c) e);have HX:=aa (And.intro g j);obtain⟨c0,c1,c2,c3,d0,d1,d2,d3,f0,f1,f2,f3⟩:=H8.out;clear h hn hi z Y hv g j
 go_enter Tryz.func109,Tryz.ntmps109
 go_wp2_with fail
 refine (aG (HN.out _)).mono ?_
 rintro x Q ⟨rfl,rfl⟩
 go_wp2_with fail
 refine (aG (HI.out _)).mono ?_
 rintro x Q ⟨rfl,rfl⟩
 go_wp2_with fail
 go_region_with (first | ((go_at_call 74;refine (HO.out _).mono ?_;rintro r I ⟨nx,vx,X,K,rfl,q,hX,f⟩;obtain⟨px,lx,cx,rfl⟩:=q.shape;have B:=aa (HB.out.drew.trans (f.mono (show w.heap.size<=(boxA2 w 0 neg (.slice p l c) e).heap.size by rw [O.out];omega)));have J:=aa (Cells8.below (gn H8.out) f (show w.heap.size+1<(boxA2 w 0 neg (.slice p l c) e).heap.size by rw [O.out];omega));have T:w.heap.size+2<=I.heap.size:=(by have h9:=f.size;have h8:(boxA2 w 0 neg (.slice p l c) e).heap.size<=I.heap.size:=h9;rw [O.out] at h8;exact h8);have V:=aa q;have b:=aa hX;have g1:=J.out.c1;have g2:=J.out.c2;have g3:=J.out.c3;clear f q hX)) | ((go_at_call 73;obtain⟨E,U⟩:∃ E,iY M e X K=E:=⟨_,rfl⟩;obtain⟨n,m,kk,a⟩:=OF (nm:=neg) (nx:=nx) o.out.lo o.out.hi (show -2148<=K by have:=b.out.lo;omega) (show K<=2000 by have:=b.out.hi;omega) (o.out.nd Z).1 (show nd X<=1000 by have:=dw b.out.lt;omega) U;refine (pK neg nx (.slice p l c) (.slice px lx cx) e K E M X n m I (HD.out _ B.out) V.out U a.hn a.hm (by have:=a.hn1;omega) (by have:=a.hm1;omega) (by have:=o.out.nd Z;omega) (by have:=dw b.out.lt;omega) a.had a.hbd).mono ?_;rintro r w4 ⟨d,v',N',L,rfl,y,C,D,F,t⟩;obtain⟨p4,l4,c4,rfl⟩:=y.shape;have S:Hid (DV 0 d N' L (N+A.nN (x:Int)) (k+1)):=(by have hT:=Dr (s:=0) (kk:=k+1) (kk':=k+1) a D F rfl (by rw [o.out.val];exact IZ o.out.bd (IY b.out)) (Nat.le_refl _);rw [o.out.val,MW b.out HX.out.2 HX.out.1] at hT;exact hT);have P:=aa (B.out.trans (t.mono B.out.size));have i:=aa (J.out.below t (show w.heap.size+1<I.heap.size by omega));have R:=aa y;have G:=aa (cZ C T);have k0:=i.out.d0;have k1:=i.out.d1;have k2:=i.out.d2;have k3:=i.out.d3;have l0:=i.out.f0;have l1:=i.out.f1;have l2:=i.out.f2;have l3:=i.out.f3;clear y C D F t a U)))
 all_goals
  go_wp2_with fail
  refine bodyPost_ret (v:=.agg #[.int .i64 0,.bool d,.slice p4 l4 c4,.int .i64 L]) (by simp [results,Tryz.results109,go_sem,k0,k1,k2,k3]) rfl ?_
  rw [HT.out];exact⟨d,_,N',L,rfl,lJ R.out G.out (by omega),Or.inr (cZ G.out (by omega)),S.out,bX P.out (by omega)⟩
theorem Rm (s:Nat) (neg:Bool) (v:Value) (M:Nat) (e:Int) (N:Int) (k x:Nat) (u:Int) (w:World) (d:DN w v M) (b:DV s neg M e N k) (g:oB k) (h:U64 u) (f:Hid (u=(x:Int))) :
  Calls Tryz.prog 109 #[AV (s:Int) neg v e,.int .u64 u] w (cw w v M (A.St.merge ⟨s,N⟩ (A.dI u)) (k+1)):=by
 cases a:ah u with
 | true=>exact Jc s neg v M e N (k+1) u w b.s3 h a
 | false=>
  cases hi:aX u with
  | true=>exact Jd s neg v M e N (k+1) u w b.s3 h a hi
  | false=>
   by_cases c:s=0
   ·subst c;exact Je neg v M e N k x u w d b g h a hi f
   ·exact Fb s neg v M e N k x u w d b c h a hi f.out
end Go.Proofs.YtfdddijdjpijbaaGreat
namespace Go.Proofs.YtfdddijdjpijbaaGreat.A
open Go.RowKit
theorem MX {o:Option Nat} {r:Nat} (h:Ag o r):dI (r:Int)=dI (cn o:Int):=by
 cases o with
 | some q=>rw [cz h,ao]
 | none=>
  have f:∀ {b:Nat},ah (b:Int)=true->dI (b:Int)=⟨3,0⟩:=fun {b} a=>by
   have c:ay (b:Int)=false:=by
    unfold ay;unfold ah at a
    rw [decide_eq_true_eq] at a
    rw [decide_eq_false_iff_not];omega
   unfold dI endN;rw [c,a];rfl
  rw [f (eV h).1,lz,f pV]
def bn (x y:Nat):St:=if ay (x:Int)&&ay (y:Int) then fR (x:Int) (y:Int) else dI (cn (floatBits .mul .f64 x y):Int)
theorem Jf (B b:Nat) (v:Value) (L:Nat) (a:St) (x y:Nat) (w:World) (h:AccAt w B b v L a) (C:B<=w.heap.size) (u:U64 (x:Int)) (t:U64 (y:Int)) (c:(ay (x:Int)&&ay (y:Int))=false) (E:L<=40000) :
  Calls Tryz.prog 89 #[.pointer (some ⟨b,0,none⟩),.float .f64 x,.float .f64 y] w fun r l=>r=.returned (.tuple #[])/\∃ q A,Did (w.drewN q) l B b v (max L 70+1) (a.merge (bn x y)) A:=by
 have m:=hideS (fI x x w rfl u);have f:=hideS (fI y y w rfl t);obtain⟨r,⟨q,F⟩,g⟩:=dm .mul (by simp) 27 x y w
 have d:r<18446744073709551616:=by
  cases o:floatBits .mul .f64 x y with
  | none=>rw [o] at g;exact (eV g).2
  | some z=>rw [o] at g;rw [cz g];exact cR (by simp) o
 have i:=hideS (MU B b v L a r r (w.drewN q) (h.drewN q) C rfl (af d) E);have s:Hid (a.merge (dI (r:Int))=a.merge (bn x y)):=by
  show _=_
  unfold bn;rw [c,if_neg (by decide),MX g]
 rw [s.out] at i
 clear h u t g d s;cases j:ay (x:Int)
 ·rw [j] at m
  clear c j
  go_enter Tryz.func89,Tryz.ntmps89
  go_wp2_with fail
  refine (turned m.out).mono ?_
  rintro e l ⟨rfl,rfl⟩
  go_wp2_with fail
  refine (turned f.out).mono ?_
  rintro e l ⟨rfl,rfl⟩
  go_wp2_with fail
  refine i.out.mono ?_
  rintro e D ⟨rfl,n,k⟩;have p:=hideS k;clear k
  go_wp2_with fail
  first | go_end0 | refine bodyPost_ret (results_none rfl _ _ _) rfl ?_
  exact⟨rfl,q,n,p.out⟩
 ·rw [j,Bool.true_and] at c
  rw [j] at m
  rw [c] at f
  clear c j
  go_enter Tryz.func89,Tryz.ntmps89
  go_wp2_with fail
  refine (turned m.out).mono ?_
  rintro e l ⟨rfl,rfl⟩
  go_wp2_with fail
  refine (turned f.out).mono ?_
  rintro e l ⟨rfl,rfl⟩
  go_wp2_with fail
  refine i.out.mono ?_
  rintro e D ⟨rfl,n,k⟩;have p:=hideS k;clear k
  go_wp2_with fail
  first | go_end0 | refine bodyPost_ret (results_none rfl _ _ _) rfl ?_
  exact⟨rfl,q,n,p.out⟩
theorem gT (B b:Nat) (v:Value) (L:Nat) (a:St) (x y:Nat) (w:World) (h:AccAt w B b v L a) (g:B<=w.heap.size) (j:U64 (x:Int)) (f:U64 (y:Int)) (i:L<=40000) :
  Calls Tryz.prog 89 #[.pointer (some ⟨b,0,none⟩),.float .f64 x,.float .f64 y] w fun r m=>r=.returned (.tuple #[])/\∃ q d,Did (w.drewN q) m B b v (max L 70+1) (a.merge (bn x y)) d:=by
 cases c:(ay (x:Int)&&ay (y:Int)) with
 | false=>exact Jf B b v L a x y w h g j f c i
 | true=>
  rw [Bool.and_eq_true] at c
  have e:bn x y=fR (x:Int) (y:Int):=by unfold bn;rw [c.1,c.2];rfl
  rw [e];exact (xU B b v L a x y x y w h g rfl j rfl f c.1 c.2 i).mono fun _ _ ⟨k,d,l⟩=>⟨k,0,d,l⟩
end Go.Proofs.YtfdddijdjpijbaaGreat.A
namespace Go.Proofs.YtfdddijdjpijbaaGreat
open Go.RowKit
theorem vF {w n m:World} {v:Value} {M k:Nat} {a:A.St} {s:Int} {neg:Bool} {e:Int} {r:Ending} (z:DN w v M) (l:Below w.heap.size w n) (p:w.heap.size+2<=n.heap.size) (h:cw n v M a k r m) (y:Cells8 n w s neg v e) :
  ∃ c d g c4 q,r=.returned (AV (a.s:Int) c (.slice d g c4) q)/\Cells8 m w s neg v e/\cw w v M a k (.returned (AV (a.s:Int) c (.slice d g c4) q)) (put4 m (w.heap.size+1) (a.s:Int) c (.slice d g c4) q):=by
 obtain⟨c,B,x,t,rfl,j,b,o,f⟩:=h;obtain⟨d,g,c4,rfl⟩:=j.shape;have i:Below w.heap.size w m:=l.trans (f.mono l.size);refine⟨c,d,g,c4,t,rfl,y.below f (by omega),c,_,x,t,rfl,?_,?_,o,bX i (by omega)⟩
 ·rcases b with⟨b,u⟩| b
  ·rw [b,u];exact z.below (bX i (by omega))
  ·exact lJ j (cZ b p) (by omega)
 ·rcases b with b | b
  ·exact Or.inl b
  ·exact Or.inr (cZ b (by omega))
theorem Fc (s:Nat) (neg:Bool) (v:Value) (M:Nat) (e:Int) (N:Int) (k x y:Nat) (u t:Int) (w:World) (H:DN w v M) (hv:DV s neg M e N k) (Z:oB k) (h:U64 u) (K:U64 t) (R:Hid (u=(x:Int))) (Q:Hid (t=(y:Int))) (f:(ay u&&ay t)=false) :
  Calls Tryz.prog 67 #[AV (s:Int) neg v e,.int .u64 u,.int .u64 t] w (cw w v M (A.St.merge ⟨s,N⟩ (A.bn x y)) (k+1)):=by
 have q:=aa (ch u · h);have B:=aa (ch t · K);obtain⟨z,F⟩:∃ z:Int,z=(cn (floatBits .mul .f64 x y):Int):=⟨_,rfl⟩;have HM:Hid (∀ w,Calls Tryz.prog 63 #[.int .u64 u,.int .u64 t] w fun e b=>e=.returned (.int .u64 z)/\Below w.heap.size w b):=fun w=>by rw [F];exact cX x y u t w R Q h K
 obtain⟨E,n⟩:∃ E,A.St.merge ⟨s,N⟩ (A.bn x y)=E:=⟨_,rfl⟩;have i:U64 z:=by rw [F];exact af (xz (by simp) _ _)
 have j:A.St.merge ⟨s,N⟩ (A.dI z)=E:=by
  rw [<- n];unfold A.bn;rw [<- R.out,<- Q.out,f,if_neg (by decide),F]
 have O:Hid (∀ b,Below w.heap.size w b->Calls Tryz.prog 109 #[AV (s:Int) neg v e,.int .u64 z] b (cw b v M E (k+1))):=fun b hb=>by
  rw [<- j];exact Rm s neg v M e N k _ z b (H.below hb) hv Z i F
 rw [n];obtain⟨p,l,c,rfl⟩:=H.shape;have HD:=aa H;have T:=aa (dT w (s:Int) neg (.slice p l c) e);have HB:=aa (dl w (s:Int) neg (.slice p l c) e);have I:=aa (iF w (s:Int) neg (.slice p l c) e);obtain⟨c0,c1,c2,c3,d0,d1,d2,d3,f0,f1,f2,f3⟩:=T.out;obtain⟨P,m⟩:∃ P,ay u=P:=⟨_,rfl⟩;obtain⟨J,o⟩:∃ J,ay t=J:=⟨_,rfl⟩;rw [m] at q
 rw [o] at B
 rw [m,o] at f
 clear h K H F i n j R Q m o;cases P<;>cases J
 all_goals first | (exact absurd f (by decide)) | skip
 all_goals
  clear f
  go_enter Tryz.func67,Tryz.ntmps67
  go_wp2_with (first | (go_at_call_of 41 (Value.int IntKind.u64 u);refine (aG (q.out _)).mono ?_;rintro x b ⟨rfl,rfl⟩) | (go_at_call_of 41 (Value.int IntKind.u64 t);refine (aG (B.out _)).mono ?_;rintro x b ⟨rfl,rfl⟩))
  go_region_with (first | ((go_at_call 63;refine (HM.out _).mono ?_;rintro x S ⟨rfl,d⟩;have D:=aa (HB.out.drew.trans (d.mono (show w.heap.size<=(boxA2 w (s:Int) neg (.slice p l c) e).heap.size by rw [I.out];omega)));have C:=aa (Cells8.below (gn T.out) d (show w.heap.size+1<(boxA2 w (s:Int) neg (.slice p l c) e).heap.size by rw [I.out];omega));have L:w.heap.size+2<=S.heap.size:=(by have h9:=d.size;have V:(boxA2 w (s:Int) neg (.slice p l c) e).heap.size<=S.heap.size:=h9;rw [I.out] at V;exact V);have g0:=C.out.c0;have g1:=C.out.c1;have g2:=C.out.c2;have g3:=C.out.c3;clear d)) | ((go_at_call 109;refine (O.out _ D.out).mono ?_;intro r w4 g;obtain⟨G,W,l4,c4,e4,rfl,a,U⟩:=vF HD.out D.out L g C.out;have X:=aa U;have k0:=a.d0;have k1:=a.d1;have k2:=a.d2;have Y:=a.d3;have l0:=a.f0;have l1:=a.f1;have l2:=a.f2;have l3:=a.f3;clear g U a)))
  all_goals
   go_wp2_with fail
   refine bodyPost_ret (v:=.agg #[.int .i64 (E.s:Int),.bool G,.slice W l4 c4,.int .i64 e4]) (by simp [results,Tryz.results67,go_sem,k0,k1,k2,Y]) rfl ?_
   exact X.out
theorem Bp (s:Nat) (neg:Bool) (v:Value) (M:Nat) (e:Int) (N:Int) (k x y:Nat) (u t:Int) (w:World) (o:DN w v M) (n:DV s neg M e N k) (b:s≠0) (h:U64 u) (r:U64 t) (z:u=(x:Int)) (q:t=(y:Int)) (a:ay u=true) (f:ay t=true) :
  Calls Tryz.prog 67 #[AV (s:Int) neg v e,.int .u64 u,.int .u64 t] w (cw w v M (A.St.merge ⟨s,N⟩ (A.bn x y)) (k+1)):=by
 have j:=aa (ch u · h);have i:=aa (ch t · r);rw [a] at j
 rw [f] at i
 obtain⟨m,d⟩:∃ m,A.St.merge ⟨s,N⟩ (A.bn x y)=m:=⟨_,rfl⟩;have C:Hid (m=⟨s,N⟩):=by
  show _=_
  rw [<- d];unfold A.bn;rw [<- z,<- q,a,f]
  show A.St.merge ⟨s,N⟩ (A.fR u t)=_
  unfold A.fR;rw [iG,if_neg b,n.none b]
 rw [d];obtain⟨p,l,c,rfl⟩:=o.shape;have H:=aa o;have E:=aa (n.mono (show k<=k+1 by omega))
 have F:(((s:Int) !=0))=true:=by simp;omega
 have B:((s:Int)==0)=false:=by simp;omega
 have D:=aa (dT w (s:Int) neg (.slice p l c) e);obtain⟨c0,c1,c2,c3,L,J,O,K,Q,R,I,P⟩:=D.out;clear h r d o n z q b a f
 go_enter Tryz.func67,Tryz.ntmps67
 go_wp2_with (first | (go_at_call_of 41 (Value.int IntKind.u64 u);refine (aG (j.out _)).mono ?_;rintro x G ⟨rfl,rfl⟩) | (go_at_call_of 41 (Value.int IntKind.u64 t);refine (aG (i.out _)).mono ?_;rintro x G ⟨rfl,rfl⟩))
 refine bodyPost_ret (v:=.agg #[.int .i64 (s:Int),.bool neg,.slice p l c,.int .i64 e]) (by simp [results,Tryz.results67,go_sem]) rfl ?_
 have g:Below w.heap.size w ((w.alloc (.cells #[.int .i64 (s:Int),.bool neg,.slice p l c,.int .i64 e] 85)).alloc (.cells #[.int .i64 (s:Int),.bool neg,.slice p l c,.int .i64 e] 85)):=((Below.refl _ _).alloc (Nat.le_refl _) _).trans (((Below.refl _ _).alloc (Nat.le_refl _) _).mono (by simp))
 rw [C.out];exact⟨neg,.slice p l c,M,e,rfl,H.out.below g,Or.inl ⟨rfl,rfl⟩,E.out,g⟩
def Three (a:World) (B:Nat) (neg:Bool) (v:Value) (e:Int):Prop:=
 a.cell? ⟨B,1,none⟩=some (.bool neg)/\a.cell? ⟨B,2,none⟩=some v/\a.cell? ⟨B,3,none⟩=some (.int .i64 e)
theorem Cells8.three {w1 w:World} {s:Int} {neg:Bool} {v:Value} {e:Int} (h:Cells8 w1 w s neg v e):Three w1 w.heap.size neg v e:=⟨h.c1,h.c2,h.c3⟩
theorem Fd {w:World} {B:Nat} {neg d:Bool} {v g:Value} {e m k:Int} (h:Three w B neg v e):Three (put4 w (B+1) k d g m) B neg v e:=by
 have l:B+1≠B:=by omega
 have f:∀ (i j:Nat) (w:World) (x:Value),(w.setCell ⟨B+1,i,none⟩ x).cell? ⟨B,j,none⟩=w.cell? ⟨B,j,none⟩:=fun i j w x=>World.cell?_setCell_far w ⟨B+1,i,none⟩ ⟨B,j,none⟩ x l
 obtain⟨a,b,c⟩:=h;refine⟨?_,?_,?_⟩
 ·rw [f,f,f,f];exact a
 ·rw [f,f,f,f];exact b
 ·rw [f,f,f,f];exact c
theorem QJ {E ex ey:Int} {N:Nat} (h:E=ex+ey\/(E=0/\N=0)) (a: -1074<=ex) (c:ex<=971) (d: -1074<=ey) (b:ey<=971): -2148<=E/\E<=2000:=by
 rcases h with h | ⟨h,_⟩ <;>omega
theorem Fe {x y X Y:Nat} {nx u:Bool} {ex ey:Int} (m:OfR x nx X ex) (l:OfR y u Y ey) (e:x<18446744073709551616) (g:y<18446744073709551616) (o:ag x) (p:ag y) {neg N E} (w:sg neg N=sg nx X*sg u Y) (q:E=ex+ey\/(E=0/\N=0)) :
  sg neg N*((2^(E+2148).toNat:Nat):Int)=az (x:Int)*az (y:Int)*2^(aP (x:Int)+aP (y:Int)+2148).toNat/\-2148<=E/\E<=2000/\nd N<=1000/\∃ K,K=4200/\(sg neg N*((2^(E+2148).toNat:Nat):Int)).natAbs<=1*2^K:=by
 obtain⟨_,_,j,r⟩:=ql m e o;obtain⟨_,_,i,t⟩:=ql l g p;have n:N=X*Y:=by
  have:=congrArg Int.natAbs w;rw [Int.natAbs_mul,bH,bH,bH] at this;exact this
 have z:=m.lo;have C:=m.hi;have G:=l.lo;have B:=l.hi;have H:N<9007199254740992*9007199254740992:=by rw [n];exact Nat.mul_lt_mul'' m.lt l.lt
 have s:nd N<=1000:=Nat.le_trans (bP (k:=4) (by omega)) (by omega)
 obtain⟨F,D⟩:=QJ q z C G B;refine⟨?_,F,D,s,4200,rfl,?_⟩
 ·by_cases a:N=0
  ·rw [a,aT,Int.zero_mul];have:X=0\/Y=0:=by rw [n] at a;exact Nat.mul_eq_zero.1 a
   rcases this with c | c
   ·rw [r c,Int.zero_mul,Int.zero_mul]
   ·rw [t c,Int.mul_zero,Int.zero_mul]
  ·have d:X≠0:=fun c=>a (by rw [n,c,Nat.zero_mul])
   have f:Y≠0:=fun c=>a (by rw [n,c,Nat.mul_zero])
   have b:E=ex+ey:=by
    rcases q with h | ⟨_,h⟩
    ·exact h
    ·exact absurd h a
   rw [w,b,(j d).1,(j d).2,(i f).1,(i f).2,Int.natCast_pow];rfl
 ·obtain⟨K,A⟩:∃ K:Nat,K=4200:=⟨_,rfl⟩;rw [<- A,Int.natAbs_mul,bH,Int.natAbs_natCast,Nat.one_mul];have v:N*2^(E+2148).toNat<=2^106*2^(E+2148).toNat:=Nat.mul_le_mul_right _ (by omega)
  by_cases a:N=0
  ·rw [a,Nat.zero_mul];exact Nat.zero_le _
  ·have b:E=ex+ey:=by
    rcases q with h | ⟨_,h⟩
    ·exact h
    ·exact absurd h a
   rw [<- Nat.pow_add] at v
   exact Nat.le_trans v (Nat.pow_le_pow_right (by decide) (by omega))
theorem Ff (neg:Bool) (v:Value) (M:Nat) (e:Int) (N:Int) (k x y:Nat) (u t:Int) (w:World) (hd:DN w v M) (hv:DV 0 neg M e N k) (hk:oB k) (h:U64 u) (h':U64 t) (hu:Hid (u=(x:Int))) (ht:Hid (t=(y:Int))) (i:ay u=true) (G:ay t=true) :
  Calls Tryz.prog 67 #[AV 0 neg v e,.int .u64 u,.int .u64 t] w (cw w v M (A.St.merge ⟨0,N⟩ (A.bn x y)) (k+1)):=by
 have ab:=aa (ch u · h);have al:=aa (ch t · h');rw [i] at ab
 rw [G] at al
 have nb:∀ {z:Nat} {b:Int},b=(z:Int)->ay b=true->ag z:=fun {z b} e o=>by
  unfold ay at o;rw [e,eo,decide_eq_true_eq] at o;unfold ag;omega
 have U:=nb hu.out i;have O:=nb ht.out G;have H:x<18446744073709551616:=by have:=h.2;rw [hu.out] at this;omega
 have I:y<18446744073709551616:=by have:=h'.2;rw [ht.out] at this;omega
 have bc:=aa fun w=>eL x u w hu h U
 have bo:=aa fun w=>eL y t w ht h' O
 obtain⟨tg,Q⟩:∃ tg,A.St.merge ⟨0,N⟩ (A.bn x y)=tg:=⟨_,rfl⟩;have HT:Hid (tg=⟨0,N+az (x:Int)*az (y:Int)*2^(aP (x:Int)+aP (y:Int)+2148).toNat⟩):=by
  show _=_
  rw [<- Q];unfold A.bn;rw [<- hu.out,<- ht.out,i,G]
  show A.St.merge ⟨0,N⟩ (A.fR u t)=_
  unfold A.fR;rw [iG,if_pos rfl]
 rw [Q];obtain⟨p,l,c,rfl⟩:=hd.shape;have HD:=aa fun K (hb:Below w.heap.size w K)=>hd.below hb
 have J:=aa hv;have H8:=aa (dT w 0 neg (.slice p l c) e);have HB:=aa (dl w 0 neg (.slice p l c) e);have HZ:=aa (iF w 0 neg (.slice p l c) e);have q:=aa (And.intro (And.intro U H) (And.intro O I));obtain⟨c0,c1,c2,c3,d0,d1,d2,d3,f0,f1,f2,f3⟩:=H8.out;have S0:Hid (Three (boxA2 w 0 neg (.slice p l c) e) w.heap.size neg (.slice p l c) e):=H8.out.three;clear h h' Q hd hv U H O I i G nb
 go_enter Tryz.func67,Tryz.ntmps67
 go_wp2_with (first | (go_at_call_of 41 (Value.int IntKind.u64 u);refine (aG (ab.out _)).mono ?_;rintro x K ⟨rfl,rfl⟩) | (go_at_call_of 41 (Value.int IntKind.u64 t);refine (aG (al.out _)).mono ?_;rintro x K ⟨rfl,rfl⟩))
 go_region_held3 (fun K=>K.cell? ⟨w.heap.size,1,none⟩=some (.bool neg)/\K.cell? ⟨w.heap.size,2,none⟩=some (.slice p l c)/\K.cell? ⟨w.heap.size,3,none⟩=some (.int .i64 e)) (first | exact S0.out | exact S3.out | exact S4.out | exact S5.out | exact S6.out | exact Fd S6.out | go_keep) (first | ((go_at_call_of 74 (Value.int IntKind.u64 u);refine (bc.out _).mono ?_;rintro r w3 ⟨nx,vx,X,ex,rfl,L,hX,C⟩;obtain⟨px,lx,cx,rfl⟩:=L.shape;have ba:=aa (HB.out.drew.trans (C.mono (show w.heap.size<=(boxA2 w 0 neg (.slice p l c) e).heap.size by rw [HZ.out];omega)));have G8:=aa (Cells8.below (gn H8.out) C (show w.heap.size+1<(boxA2 w 0 neg (.slice p l c) e).heap.size by rw [HZ.out];omega));have bv:w.heap.size+2<=w3.heap.size:=(by have h9:=C.size;have h8:(boxA2 w 0 neg (.slice p l c) e).heap.size<=w3.heap.size:=h9;rw [HZ.out] at h8;exact h8);have bz:=aa L;have F:=aa hX;have S3:=aa G8.out.three;clear C L hX)) | ((go_at_call_of 74 (Value.int IntKind.u64 t);refine (bo.out _).mono ?_;rintro r w4 ⟨ny,vy,Y,ey,rfl,S,hY,f⟩;obtain⟨py,ly,cy,rfl⟩:=S.shape;have W:=aa (ba.out.trans (f.mono ba.out.size));have I8:=aa (G8.out.below f (show w.heap.size+1<w3.heap.size by omega));have bi:w.heap.size+2<=w4.heap.size:=Nat.le_trans bv f.size;have Z:=aa (bz.out.below f);have bx:=aa S;have D:=aa hY;have S4:=aa I8.out.three;clear f S hY)) | ((go_at_call 100;refine (tf nx ny (.slice px lx cx) (.slice py ly cy) ex ey X Y w4 Z.out bx.out (by have:=dw F.out.lt;omega) (by have:=dw D.out.lt;omega) (by have:=F.out.lo;omega) (by have:=F.out.hi;omega) (by have:=D.out.lo;omega) (by have:=D.out.hi;omega)).mono ?_;rintro r w5 ⟨nt,vt,Tt,et,rfl,T,cc,ac,as,B⟩;obtain⟨pt,lt,ct,rfl⟩:=T.shape;have d:=aa (Fe F.out D.out q.out.1.2 q.out.2.2 q.out.1.1 q.out.2.1 ac as);have R:=aa (W.out.trans (B.mono W.out.size));have J8:=aa (I8.out.below B (show w.heap.size+1<w4.heap.size by omega));have br:w.heap.size+2<=w5.heap.size:=Nat.le_trans bi B.size;have ca:=aa T;have S5:=aa J8.out.three;clear B T cc ac as)) | ((go_at_call 73;obtain⟨E,hE⟩:∃ E,iY M e Tt et=E:=⟨_,rfl⟩;obtain⟨n,m,kk,a⟩:=OF (nm:=neg) (nx:=nt) J.out.lo J.out.hi d.out.2.1 d.out.2.2.1 (J.out.nd hk).1 d.out.2.2.2.1 hE;refine (pK neg nt (.slice p l c) (.slice pt lt ct) e et E M Tt n m w5 (HD.out _ R.out) ca.out hE a.hn a.hm (by have:=a.hn1;omega) (by have:=a.hm1;omega) (by have:=J.out.nd hk;omega) (by have:=d.out.2.2.2.1;omega) a.had a.hbd).mono ?_;rintro r w6 ⟨g,v',N',E',rfl,P,ad,ai,am,V⟩;obtain⟨p6,l6,c6,rfl⟩:=P.shape;have bh:Hid (DV 0 g N' E' (N+az (x:Int)*az (y:Int)*2^(aP (x:Int)+aP (y:Int)+2148).toNat) (k+1)):=(by have hT:=Dr (s:=0) (kk:=k+1) (kk':=k+1) a ai am rfl (by rw [J.out.val];exact IZ J.out.bd d.out.2.2.2.2) (Nat.le_refl _);rw [J.out.val,d.out.1] at hT;exact hT);have bs:=aa (R.out.trans (V.mono R.out.size));have j:=aa (J8.out.below V (show w.heap.size+1<w5.heap.size by omega));have bk:=aa P;have bb:=aa (cZ ad br);have S6:=aa j.out.three;have k0:=j.out.d0;have k1:=j.out.d1;have k2:=j.out.d2;have k3:=j.out.d3;have l0:=j.out.f0;have l1:=j.out.f1;have l2:=j.out.f2;have l3:=j.out.f3;clear P ad ai am V a hE)))
 go_wp2_with fail
 refine bodyPost_ret (v:=.agg #[.int .i64 0,.bool g,.slice p6 l6 c6,.int .i64 E']) (by simp [results,Tryz.results67,go_sem,k0,k1,k2,k3]) rfl ?_
 rw [HT.out];exact⟨g,_,N',E',rfl,lJ bk.out bb.out (by omega),Or.inr (cZ bb.out (by omega)),bh.out,bX bs.out (by omega)⟩
theorem OG (s:Nat) (neg:Bool) (v:Value) (M:Nat) (e:Int) (N:Int) (k x y:Nat) (u t:Int) (w:World) (f:DN w v M) (b:DV s neg M e N k) (j:oB k) (h:U64 u) (d:U64 t) (g:Hid (u=(x:Int))) (c:Hid (t=(y:Int))) :
  Calls Tryz.prog 67 #[AV (s:Int) neg v e,.int .u64 u,.int .u64 t] w (cw w v M (A.St.merge ⟨s,N⟩ (A.bn x y)) (k+1)):=by
 cases a:(ay u&&ay t) with
 | false=>exact Fc s neg v M e N k x y u t w f b j h d g c a
 | true=>
  rw [Bool.and_eq_true] at a
  by_cases i:s=0
  ·subst i;exact Ff neg v M e N k x y u t w f b j h d g c a.1 a.2
  ·exact Bp s neg v M e N k x y u t w f b i h d g.out c.out a.1 a.2
theorem vG (N:Int):A.cS ⟨0,N⟩=valF N:=by unfold A.cS;rw [if_pos rfl]
theorem Ds (N:Int):A.cS ⟨1,N⟩=9218868437227405312:=by unfold A.cS;dsimp only;rw [if_neg (by decide),if_pos rfl]
theorem Dt (N:Int):A.cS ⟨2,N⟩=18442240474082181120:=by unfold A.cS;dsimp only;rw [if_neg (by decide),if_neg (by decide),if_pos rfl]
theorem Du (N:Int):A.cS ⟨3,N⟩=9221120237041090561:=by unfold A.cS;dsimp only;rw [if_neg (by decide),if_neg (by decide),if_neg (by decide)]
theorem Fg {neg:Bool} {M k:Nat} {e N:Int} (i:DV 0 neg M e N k):bN neg M e false=(valF N:Int):=by
 have a:=i.val;have j:=i.lo;unfold valF
 by_cases b:M=0
 ·rw [b,aT,Int.zero_mul] at a
  rw [b,<- a];unfold bN aI;rw [if_pos rfl,if_pos rfl];rfl
 ·obtain⟨q,l⟩:∃ q,(e+2148).toNat=q:=⟨_,rfl⟩;rw [l] at a
  obtain⟨f,m⟩:=ji (S:=sg neg M) q;have d:sg neg M≠0:=by
   intro c;have:=bH neg M;rw [c] at this;exact b this.symm
  rw [fJ neg e b,<- a];unfold aI;rw [if_neg (fun c=>d (m.1 c)),bg,bH]
  have h:=bf b q e;rw [show e - (q:Int)= -2148 by omega] at h
  rw [h];have g:=kI (neg:=neg) b;cases neg
  ·rw [if_neg (by decide),if_neg (fun c=>by have:=f.1 c;simp at g;omega)];omega
  ·rw [if_pos rfl,if_pos (f.2 (by simpa using g))];omega
theorem OH (s:Nat) (neg:Bool) (v:Value) (M:Nat) (e:Int) (N:Int) (k:Nat) (w:World) (h:DN w v M) (f:DV s neg M e N k) (x:oB k) :
  Calls Tryz.prog 110 #[AV (s:Int) neg v e,.int .i64 1] w fun r j=>r=.returned (.int .u64 (A.cS ⟨s,N⟩:Int))/\Below w.heap.size w j:=by
 obtain⟨p,l,c,rfl⟩:=h.shape;obtain⟨b,a⟩:∃ b:Int,(A.cS ⟨s,N⟩:Int)=b:=⟨_,rfl⟩;rw [a];have u:=f.s3;have g:Hid (Below w.heap.size w (boxA w (s:Int) neg (.slice p l c) e)):=(Below.refl _ _).alloc (Nat.le_refl _) _;rcases (show s=0\/s=1\/s=2\/s=3 by omega) with rfl | rfl | rfl | rfl
 ·have q:=Fg f;have d:(valF N:Int)=b:=by rw [<- a,vG]
  have m:Hid (Calls Tryz.prog 77 #[.agg #[.bool neg,.slice p l c,.int .i64 e]] (boxA w 0 neg (.slice p l c) e) fun r j=>r=.returned (.int .u64 b)/\Below (boxA w 0 neg (.slice p l c) e).heap.size (boxA w 0 neg (.slice p l c) e) j):=by
   rw [<- d,<- q];exact gJ neg _ e M _ (h.below g.out) (by have:=f.nd x;omega) (by have:=f.lo;omega) (by have:=f.hi;omega)
  clear h f a q d
  go_enter Tryz.func110,Tryz.ntmps110
  go_wp2_with fail
  refine m.out.mono ?_
  rintro r y ⟨rfl,o⟩;have n:=aa (g.out.trans (o.mono g.out.size));clear o
  go_wp2_with fail
  go_ret
  exact⟨rfl,n.out⟩
 ·have d:(9218868437227405312:Int)=b:=by rw [<- a,Ds];rfl
  have i:=aa d;clear h f a d
  go_enter Tryz.func110,Tryz.ntmps110
  go_wp2_with fail
  go_ret
  exact⟨bA i.out,g.out⟩
 ·have d:(18442240474082181120:Int)=b:=by rw [<- a,Dt];rfl
  have i:=aa d;have t:=aa fun w=>dQ 9218868437227405312 9218868437227405312 18442240474082181120 w rfl (by unfold U64;omega) rfl
  clear h f a d
  go_enter Tryz.func110,Tryz.ntmps110
  go_wp2_with fail
  refine (t.out _).mono ?_
  rintro r j ⟨rfl,rfl⟩
  go_wp2_with fail
  go_ret
  exact⟨bA i.out,g.out⟩
 ·have d:(9221120237041090561:Int)=b:=by rw [<- a,Du];rfl
  have i:=aa d;clear h f a d
  go_enter Tryz.func110,Tryz.ntmps110
  go_wp2_with fail
  go_ret
  exact⟨bA i.out,g.out⟩
theorem Pn (s:Nat) (neg:Bool) (v:Value) (M:Nat) (e:Int) (N:Int) (k:Nat) (w:World) (g:DN w v M) (h:DV s neg M e N k) (m:oB k) :
  Calls Tryz.prog 69 #[AV (s:Int) neg v e] w fun r n=>r=.returned (.int .u64 (A.cS ⟨s,N⟩:Int))/\Below w.heap.size w n:=by
 obtain⟨p,l,c,rfl⟩:=g.shape;have f:Hid (Below w.heap.size w (boxA w (s:Int) neg (.slice p l c) e)):=(Below.refl _ _).alloc (Nat.le_refl _) _;have i:=aa (OH s neg (.slice p l c) M e N k _ (g.below f.out) h m);obtain⟨b,a⟩:∃ b:Int,(A.cS ⟨s,N⟩:Int)=b:=⟨_,rfl⟩;rw [a] at i ⊢
 clear g h a
 go_enter Tryz.func69,Tryz.ntmps69
 go_wp2_with fail
 refine i.out.mono ?_
 rintro r o ⟨rfl,j⟩;have d:=aa (f.out.trans (j.mono f.out.size));clear j
 go_wp2_with fail
 go_ret
 exact⟨rfl,d.out⟩
structure Held (w wr:World) (B:Nat) (a:A.St) (k:Nat):Prop where
 ex:∃ neg v M e,wr.heap[B]? =some (.cells #[.int .i64 (a.s:Int),.bool neg,v,.int .i64 e] 85 (0,0))/\DN wr v M/\From (B+1) v/\DV a.s neg M e a.N k
 bl:Below w.heap.size w wr
 lo:w.heap.size<=B
 lt:B<wr.heap.size
theorem Jg (w:World):Held w (boxA w 0 false (.slice none 0 0) 0) w.heap.size ⟨0,0⟩ 0:=
 ⟨⟨false,.slice none 0 0,0,0,heap_alloc_new w _,Or.inl ⟨rfl,_,_,rfl⟩,gI _,DV.zero (by decide) 0⟩,(Below.refl _ _).alloc (Nat.le_refl _) _,Nat.le_refl _,by simp⟩
structure Held4 (wr:World) (B:Nat) (s:Int) (neg:Bool) (v:Value) (e:Int):Prop where
 c0:wr.cell? ⟨B,0,none⟩=some (.int .i64 s)
 c1:wr.cell? ⟨B,1,none⟩=some (.bool neg)
 c2:wr.cell? ⟨B,2,none⟩=some v
 c3:wr.cell? ⟨B,3,none⟩=some (.int .i64 e)
 f0:wr.frozen? ⟨B,0,none⟩=false
 f1:wr.frozen? ⟨B,1,none⟩=false
 f2:wr.frozen? ⟨B,2,none⟩=false
 f3:wr.frozen? ⟨B,3,none⟩=false
theorem eF {wr:World} {B:Nat} {s:Int} {neg:Bool} {v:Value} {e:Int} (a:wr.heap[B]? =some (.cells #[.int .i64 s,.bool neg,v,.int .i64 e] 85 (0,0))):Held4 wr B s neg v e:=by
 refine⟨?_,?_,?_,?_,?_,?_,?_,?_⟩
 ·simp [World.cell?,a]
 ·simp [World.cell?,a]
 ·simp [World.cell?,a]
 ·simp [World.cell?,a]
 ·simp [World.frozen?,a]
 ·simp [World.frozen?,a]
 ·simp [World.frozen?,a]
 ·simp [World.frozen?,a]
theorem mQ {w:World} {B:Nat} {s d:Int} {neg a:Bool} {v b:Value} {e c:Int} (f:w.heap[B]? =some (.cells #[.int .i64 s,.bool neg,v,.int .i64 e] 85 (0,0))):(put4 w B d a b c).heap[B]? =some (.cells #[.int .i64 d,.bool a,b,.int .i64 c] 85 (0,0)):=by
 have j:=heap_setCell_same w B 0 _ _ (.int .i64 d) f;have i:=heap_setCell_same _ B 1 _ _ (.bool a) j;have g:=heap_setCell_same _ B 2 _ _ b i;have h:=heap_setCell_same _ B 3 _ _ (.int .i64 c) g;rw [h];rfl
theorem xZ {w wr w1:World} {B k:Nat} {s:Int} {neg:Bool} {v:Value} {M:Nat} {e:Int} {a:A.St} {r:Ending} (z:wr.heap[B]? =some (.cells #[.int .i64 s,.bool neg,v,.int .i64 e] 85 (0,0))) (x:From (B+1) v) (i:Below w.heap.size w wr) (j:w.heap.size<=B) (n:B<wr.heap.size) (h:cw wr v M a k r w1) :
  ∃ b p l c f,r=.returned (AV (a.s:Int) b (.slice p l c) f)/\Held4 w1 B s neg v e/\Held w (put4 w1 B (a.s:Int) b (.slice p l c) f) B a k:=by
 obtain⟨b,C,y,f,rfl,t,g,o,d⟩:=h;obtain⟨p,l,c,rfl⟩:=t.shape;have m:w1.heap[B]? =some (.cells #[.int .i64 s,.bool neg,v,.int .i64 e] 85 (0,0)):=by rw [d.block B n];exact z
 have u:From (B+1) (.slice p l c):=by
  rcases g with⟨g,_⟩| g
  ·rw [g];exact x
  ·exact cZ g n
 have q:Below w.heap.size w w1:=i.trans (d.mono i.size);refine⟨b,p,l,c,f,rfl,eF m,⟨b,_,y,f,mQ m,lJ t u (by omega),u,o⟩,bX q j,j,?_⟩
 have:=d.size;simp;omega
theorem Jh (a:A.St):(⟨a.s,a.N⟩:A.St)=a:=rfl
theorem Jj (q:Nat) (m:Nat) (e:q≠0) (f:m<=1):(2*q+m).log2=q.log2+1:=by
 have a:=Nat.log2_self_le e;have b:q<2^(q.log2+1):=Nat.lt_log2_self;have c:(2*q+m).log2<q.log2+1+1:=(Nat.log2_lt (by omega)).2 (by rw [Nat.pow_succ];omega)
 have d:q.log2+1<=(2*q+m).log2:=(Nat.le_log2 (by omega)).2 (by rw [Nat.pow_succ];omega)
 omega
theorem Jk {q:Nat} (more:Bool):nearR (mant q more) (ko q)=nearR (2*q+more.toNat) (-2149):=by
 have j:more.toNat<=1:=by cases more<;>decide
 by_cases h:q.log2<61
 ·have p:q<2^61:=by
   by_cases d:q=0
   ·rw [d];decide
   ·exact (Nat.log2_lt d).1 h
  have r:=Mw q more;have k:ko q< -1139:=by unfold ko;split<;>omega
  rw [je (by omega) k,je (by omega) (by decide)]
 ·have d:q≠0:=fun c=>by rw [c] at h;exact h (by decide)
  obtain⟨t,g⟩:∃ t,q.log2=t+61:=⟨q.log2 - 61,by omega⟩
  have o:mant q more=bO (2*q+more.toNat) (t+1) false:=by
   unfold mant bO;rw [if_neg d,g,show t+61+3=64+t by omega,Nat.pow_add 2 64 t,Nat.mul_comm q,Nat.mul_mod_mul_left,Nat.mul_div_mul_left _ _ (Nat.two_pow_pos 64),show (2:Nat)^(t+1)=2*2^t by rw [Nat.pow_succ,Nat.mul_comm]]
   have l:(2*q+more.toNat) / (2*2^t)=q / 2^t:=by
    rw [<- Nat.div_div_eq_div_mul]
    congr 1
    omega
   have i:(2*q+more.toNat) % (2*2^t)=2*(q % 2^t)+more.toNat:=by
    have e:=Nat.div_add_mod q (2^t);have n:q % 2^t<2^t:=Nat.mod_lt _ (Nat.two_pow_pos t);generalize q / 2^t=Q at *
    generalize q % 2^t=R at *
    generalize 2^t=T at *
    have f:2*q+more.toNat=2*R+more.toNat+2*T*Q:=by rw [<- e,Nat.mul_add,Nat.mul_assoc];omega
    rw [f,Nat.add_mul_mod_self_left,Nat.mod_eq_of_lt (by omega)]
   rw [l,i];have s:=Nat.two_pow_pos 64;have m:(2^64*(q % 2^t)=0/\more=false)↔(2*(q % 2^t)+more.toNat=0/\(false:Bool)=false):=by
    constructor
    ·rintro⟨a,b⟩;rcases Nat.mul_eq_zero.1 a with c | c
     ·omega
     ·rw [c,b];exact⟨rfl,rfl⟩
    ·rintro⟨a,_⟩;have c:q % 2^t=0:=by omega
     refine⟨by rw [c,Nat.mul_zero],?_⟩
     cases more
     ·rfl
     ·rw [c] at a;exact absurd a (by decide)
   simp only [m]
  have f:ko q=((t+1:Nat):Int)+ -2149:=by unfold ko;rw [if_neg d,g];omega
  rw [o,f,lF (by omega) (by rw [Jj q _ d j,g];omega)]
theorem Jl {q:Nat} {more:Bool} (h:q≠0\/more=true):mant q more≠0:=by
 unfold mant
 by_cases a:q=0
 ·rw [if_pos a];rcases h with h | h
  ·exact absurd a h
  ·rw [h];decide
 ·rw [if_neg a];have e:=Nat.two_pow_pos 64;have d:q*2^64≠0:=fun c=>by
   rcases Nat.mul_eq_zero.1 c with c | c<;>omega
  have b:q.log2+3<=(q*2^64).log2:=by rw [dj a];omega
  exact (cW more b d).2
theorem mR (N:Int) (d:Nat):A.gS N d=if N=0 then 0 else wrd (decide (N<0)) (nearR (aN N.natAbs d 0) (-2149)):=by
 unfold A.gS;have f:aN N.natAbs d 0=2*(N.natAbs / d)+(decide (N.natAbs % d≠0)).toNat:=by
  unfold aN;rw [Nat.pow_zero,Nat.mul_one]
  by_cases a:N.natAbs % d=0<;>simp [a]
 rw [f,<- Jk]
 by_cases b:N=0
 ·rw [if_pos b,b];have:(0:Int).natAbs=0:=rfl;rw [this,Nat.zero_div,Nat.zero_mod]
  rfl
 ·rw [if_neg b];have h:mant (N.natAbs / d) (decide (N.natAbs % d≠0))≠0:=by
   apply Jl
   by_cases a:N.natAbs % d=0
   ·refine Or.inl (fun c=>?_)
    have:=Nat.div_add_mod N.natAbs d;rw [c,a,Nat.mul_zero] at this
    omega
   ·exact Or.inr (by simp [a])
  generalize mant (N.natAbs / d) (decide (N.natAbs % d≠0))=m at *
  generalize ko (N.natAbs / d)=g at *
  unfold aI sgM wrd
  by_cases e:N<0
  ·simp only [e,decide_true,if_true];rw [if_neg (by omega),if_pos (by omega),Int.natAbs_neg,Int.natAbs_natCast]
  ·simp only [e,decide_false,Bool.false_eq_true,if_false];rw [if_neg (by omega),if_neg (by omega),Int.natAbs_natCast]
theorem qm (nx f:Bool) (b e:Value) (ex ey:Int) (w:World) (i:DN w b 0) :
  Calls Tryz.prog 61 #[.agg #[.bool nx,b,.int .i64 ex],.agg #[.bool f,e,.int .i64 ey]] w fun x d=>x=.returned (.int .u64 0)/\Below w.heap.size w d:=by
 have a:Hid (Below w.heap.size w (boxN (boxN w nx b ex) f e ey)):=(aD w nx b ex).trans ((aD (boxN w nx b ex) f e ey).mono (by simp))
 have h:=aa fun d (j:Below w.heap.size w d)=>aY nx b ex 0 true d (i.below j) rfl
 clear i
 go_enter Tryz.func61,Tryz.ntmps61
 go_wp2_with fail
 refine (h.out _ a.out).mono ?_
 rintro x k ⟨rfl,c⟩;have g:=aa (a.out.trans (c.mono a.out.size));clear c
 go_wp2_with fail
 go_ret
 exact⟨rfl,g.out⟩
theorem kO (w:World) (s:Int) (neg:Bool) (v:Value) (e:Int):Three (boxA w s neg v e) w.heap.size neg v e:=⟨by simp,by simp,by simp⟩
theorem nP {w1 d:World} {B b:Nat} {neg:Bool} {v:Value} {e:Int} (h:Three w1 B neg v e) (a:Below b w1 d) (c:B<b):Three d B neg v e:=
 ⟨(a.cell (p:=⟨B,1,none⟩) c).trans h.1,(a.cell (p:=⟨B,2,none⟩) c).trans h.2.1,(a.cell (p:=⟨B,3,none⟩) c).trans h.2.2⟩
theorem Fi {neg:Bool} {M k n:Nat} {e N:Int} (o:DV 0 neg M e N k) (b:M≠0) (hn:0<n) {j:Nat} (x:max 0 (70 - (bl M:Int)+(bl n:Int))=(j:Int)) :
  bN neg (M*2^j / n) (e - j - 0) (decide (0<nd (M*2^j % n)))=(A.gS N n:Int):=by
 have z:=eK b;have y:=eK (show n≠0 by omega)
 have p:=jk b (show n≠0 by omega) (k:=j) (by omega)
 rw [kL _ _ _ p.1,mR];have a:=o.val;have v:=o.lo;obtain⟨q,s⟩:∃ q:Nat,(e+2148).toNat=q:=⟨_,rfl⟩;rw [s] at a
 obtain⟨m,t⟩:=ji (S:=sg neg M) q;have l:sg neg M≠0:=by
  intro c;have:=bH neg M;rw [c] at this;exact b this.symm
 have f:N≠0:=fun c=>l (t.1 (a.trans c))
 have h:N.natAbs=M*2^q:=by rw [<- a,bg,bH]
 have r:=kI (neg:=neg) b;have i:decide (N<0)=neg:=by
  cases neg
  ·exact decide_eq_false (fun c=>by rw [<- a] at c;have:=m.1 c;simp at r;omega)
  ·exact decide_eq_true (by rw [<- a];exact m.2 (by simpa using r))
 have w:2*(M*2^j / n)+(if decide (0<nd (M*2^j % n))=true then 1 else 0)=aN M n j:=by
  unfold aN
  congr 1
  by_cases d:M*2^j % n=0
  ·rw [d];rfl
  ·have:=dt d;rw [if_neg d,if_pos (decide_eq_true (show 0<nd (M*2^j % n) from this))]
 rw [if_neg f,i,h,w,Ji,Nat.add_zero];have u:nearR (aN M n j) (e - (j:Int) - 0 - 1)=nearR (aN M n q) (-2149):=by
  rw [show e - (j:Int) - 0 - 1=(e - 1) - (j:Int) by omega,show (-2149:Int)=(e - 1) - (q:Int) by omega]
  by_cases g:j<=q
  ·exact jj hn g p.2
  ·exact (vH b hn (by omega) (by omega)).symm
 rw [u];unfold gO wrd;cases neg<;>simp
theorem Br (neg:Bool) (v:Value) (M:Nat) (e:Int) (N:Int) (k n:Nat) (w:World) (t:DN w v M) (q:DV 0 neg M e N k) (I:oB k) (hn:2<=n) (B:n<=9223372036854775807) :
  Calls Tryz.prog 110 #[AV 0 neg v e,.int .i64 (n:Int)] w fun r m=>r=.returned (.int .u64 (A.gS N n:Int))/\Below w.heap.size w m:=by
 obtain⟨p,l,c,rfl⟩:=t.shape;obtain⟨h,a⟩:∃ h:Int,(A.gS N n:Int)=h:=⟨_,rfl⟩;rw [a];have G:Hid (Below w.heap.size w (boxA w 0 neg (.slice p l c) e)):=(Below.refl _ _).alloc (Nat.le_refl _) _;have u:=aa fun b=>jR (n:Int) b (by omega) (by omega)
 unfold eC at u
 rw [show decide ((n:Int)<0)=false from decide_eq_false (by omega),Int.natAbs_natCast] at u
 have O:Hid (∀ b o,Below w.heap.size w b->DN b o n->Calls Tryz.prog 61 #[.agg #[.bool neg,.slice p l c,.int .i64 e],.agg #[.bool false,o,.int .i64 0]] b fun x m=>x=.returned (.int .u64 h)/\Below b.heap.size b m):=fun b o F K=>by
  rw [<- a]
  by_cases s:M=0
  ·have P:N=0:=by have:=q.val;rw [s,aT,Int.zero_mul] at this;exact this.symm
   have:=qm neg false (.slice p l c) o e 0 b (by have:=t.below F;rw [s] at this;exact this)
   rw [mR,if_pos P];exact this
  ·obtain⟨j,D⟩:∃ j:Nat,max 0 (70 - (bl M:Int)+(bl n:Int))=(j:Int):=⟨(max 0 (70 - (bl M:Int)+(bl n:Int))).toNat,by omega⟩
   exact jl neg false _ (.slice p l c) o e 0 _ M n j _ b (t.below F) K s (by omega) (by have:=(q.nd I).2;omega) (by have:=bP (N:=n) (k:=2) (by omega);omega) (by have:=q.lo;omega) (by have:=q.hi;omega) (by omega) (by omega) D rfl rfl (Fi q s (by omega) D)
 have L:((n:Int)==1)=false:=beq_false_of_ne (by omega)
 clear t q a I hn B
 go_enter Tryz.func110,Tryz.ntmps110
 have H:=aa (kO w 0 neg (.slice p l c) e)
 go_wp2_with fail
 go_region_held3 (fun m=>m.cell? ⟨w.heap.size,1,none⟩=some (.bool neg)/\m.cell? ⟨w.heap.size,2,none⟩=some (.slice p l c)/\m.cell? ⟨w.heap.size,3,none⟩=some (.int .i64 e)) (first | exact H.out | exact E.out | exact J.out | go_keep) (first | ((go_at_call 62;refine (u.out _).mono ?_;rintro r Q ⟨o,rfl,i,d⟩;obtain⟨U,S,R,rfl⟩:=i.shape;have f:=aa (G.out.drew.trans (d.mono G.out.size));have E:=aa (nP (w1:=(boxA w 0 neg (.slice p l c) e).drew) H.out d (show w.heap.size<(boxA w 0 neg (.slice p l c) e).heap.size by simp));have z:Hid (w.heap.size<Q.heap.size):=(Nat.lt_of_lt_of_le (show w.heap.size<(boxA w 0 neg (.slice p l c) e).heap.size by simp) d.size);have C:=aa i;clear d i)) | ((go_at_call 61;refine (O.out _ _ f.out C.out).mono ?_;rintro r T ⟨rfl,g⟩;have y:=aa (f.out.trans (g.mono f.out.size));have J:=aa (nP E.out g z.out);clear g)))
 all_goals
  go_wp2_with fail
  go_ret
  exact⟨rfl,y.out⟩
def aQ (a:A.St) (n:Nat):Nat:=if a.s=0 then A.gS a.N n else A.cS a
theorem Bs (s:Nat) (neg:Bool) (v:Value) (M:Nat) (e:Int) (N n:Int) (w:World) (g:DN w v M) (k:s=1\/s=2\/s=3) :
  Calls Tryz.prog 110 #[AV (s:Int) neg v e,.int .i64 n] w fun r i=>r=.returned (.int .u64 (A.cS ⟨s,N⟩:Int))/\Below w.heap.size w i:=by
 obtain⟨p,l,c,rfl⟩:=g.shape;obtain⟨b,a⟩:∃ b:Int,(A.cS ⟨s,N⟩:Int)=b:=⟨_,rfl⟩;rw [a];have h:Hid (Below w.heap.size w (boxA w (s:Int) neg (.slice p l c) e)):=(Below.refl _ _).alloc (Nat.le_refl _) _;rcases k with rfl | rfl | rfl
 ·have d:(9218868437227405312:Int)=b:=by rw [<- a,Ds];rfl
  have f:=aa d;clear g a d
  go_enter Tryz.func110,Tryz.ntmps110
  go_wp2_with fail
  go_ret
  exact⟨bA f.out,h.out⟩
 ·have d:(18442240474082181120:Int)=b:=by rw [<- a,Dt];rfl
  have f:=aa d;have j:=aa fun w=>dQ 9218868437227405312 9218868437227405312 18442240474082181120 w rfl (by unfold U64;omega) rfl
  clear g a d
  go_enter Tryz.func110,Tryz.ntmps110
  go_wp2_with fail
  refine (j.out _).mono ?_
  rintro r i ⟨rfl,rfl⟩
  go_wp2_with fail
  go_ret
  exact⟨bA f.out,h.out⟩
 ·have d:(9221120237041090561:Int)=b:=by rw [<- a,Du];rfl
  have f:=aa d;clear g a d
  go_enter Tryz.func110,Tryz.ntmps110
  go_wp2_with fail
  go_ret
  exact⟨bA f.out,h.out⟩
theorem Po (s:Nat) (neg:Bool) (v:Value) (M:Nat) (e:Int) (N:Int) (k n:Nat) (w:World) (c:DN w v M) (b:DV s neg M e N k) (f:oB k) (hn:1<=n) (d:n<=9223372036854775807) :
  Calls Tryz.prog 110 #[AV (s:Int) neg v e,.int .i64 (n:Int)] w fun r i=>r=.returned (.int .u64 (aQ ⟨s,N⟩ n:Int))/\Below w.heap.size w i:=by
 have h:=b.s3;unfold aQ;dsimp only
 by_cases a:s=0
 ·rw [if_pos a];subst a
  by_cases g:n=1
  ·subst g;rw [A.EZ];have:=OH 0 neg v M e N k w c b f;rw [vG] at this
   exact this
  ·exact Br neg v M e N k n w c b f (by omega) d
 ·rw [if_neg a];exact Bs s neg v M e N (n:Int) w c (by omega)
end Go.Proofs.YtfdddijdjpijbaaGreat
