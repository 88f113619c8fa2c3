/-  -/
import Derived.Test.YtfdddijdjpijbaaGreatHax
import Derived.Test.YtfdddijdjpijbaaGreatHbj
import Derived.Test.YtfdddijdjpijbaaGreatHar
import Derived.Test.YtfdddijdjpijbaaGreatHay
import Derived.Test.YtfdddijdjpijbaaGreatHaz
set_option maxHeartbeats 3200000
set_option maxRecDepth 10000
namespace Go.Proofs.YtfdddijdjpijbaaGreat
open Go.RowKit
abbrev AV (s:Int) (neg:Bool) (v:Value) (e:Int):Value:=.agg #[.int .i64 s,.bool neg,v,.int .i64 e]
abbrev boxA (w:World) (s:Int) (neg:Bool) (v:Value) (e:Int):World:=w.alloc (.cells #[.int .i64 s,.bool neg,v,.int .i64 e] 85)
abbrev boxA2 (w:World) (s:Int) (neg:Bool) (v:Value) (e:Int):World:=boxA (boxA w s neg v e) 0 false (.slice none 0 0) 0
theorem iw (w:World) (s:Int) (neg:Bool) (v:Value) (e:Int):(boxA2 w s neg v e).heap.size=w.heap.size+2:=by simp
theorem dh (w:World) (s:Int) (neg:Bool) (v:Value) (e:Int):Below w.heap.size w (boxA2 w s neg v e):=
 ((Below.refl _ _).alloc (Nat.le_refl _) _).trans (((Below.refl _ _).alloc (Nat.le_refl _) _).mono (by simp))
structure Cells8 (w' w:World) (s:Int) (neg:Bool) (v:Value) (e:Int):Prop where
 c0:w'.cell? ⟨w.heap.size,0,none⟩=some (.int .i64 s)
 c1:w'.cell? ⟨w.heap.size,1,none⟩=some (.bool neg)
 c2:w'.cell? ⟨w.heap.size,2,none⟩=some v
 c3:w'.cell? ⟨w.heap.size,3,none⟩=some (.int .i64 e)
 d0:w'.cell? ⟨w.heap.size+1,0,none⟩=some (.int .i64 0)
 d1:w'.cell? ⟨w.heap.size+1,1,none⟩=some (.bool false)
 d2:w'.cell? ⟨w.heap.size+1,2,none⟩=some (.slice none 0 0)
 d3:w'.cell? ⟨w.heap.size+1,3,none⟩=some (.int .i64 0)
 f0:w'.frozen? ⟨w.heap.size+1,0,none⟩=false
 f1:w'.frozen? ⟨w.heap.size+1,1,none⟩=false
 f2:w'.frozen? ⟨w.heap.size+1,2,none⟩=false
 f3:w'.frozen? ⟨w.heap.size+1,3,none⟩=false
theorem dL (w:World) (s:Int) (neg:Bool) (v:Value) (e:Int):Cells8 (boxA2 w s neg v e) w s neg v e:=by
 have c:Below (boxA w s neg v e).heap.size (boxA w s neg v e) (boxA2 w s neg v e):=(Below.refl _ _).alloc (Nat.le_refl _) _;have b:w.heap.size<(boxA w s neg v e).heap.size:=by simp
 have a:w.heap.size+1=(boxA w s neg v e).heap.size:=by simp
 refine⟨?_,?_,?_,?_,?_,?_,?_,?_,?_,?_,?_,?_⟩
 ·rw [c.cell (p:=⟨w.heap.size,0,none⟩) b];simp
 ·rw [c.cell (p:=⟨w.heap.size,1,none⟩) b];simp
 ·rw [c.cell (p:=⟨w.heap.size,2,none⟩) b];simp
 ·rw [c.cell (p:=⟨w.heap.size,3,none⟩) b];simp
 ·rw [a];simp
 ·rw [a];simp
 ·rw [a];simp
 ·rw [a];simp
 ·rw [a];exact World.frozen?_alloc_new _ _ _ _
 ·rw [a];exact World.frozen?_alloc_new _ _ _ _
 ·rw [a];exact World.frozen?_alloc_new _ _ _ _
 ·rw [a];exact World.frozen?_alloc_new _ _ _ _
theorem Cells8.below {w1 f w:World} {s:Int} {neg:Bool} {v:Value} {e:Int} {b:Nat} (h:Cells8 w1 w s neg v e) (a:Below b w1 f) (c:w.heap.size+1<b):Cells8 f w s neg v e:=by
 have d:w.heap.size<b:=by omega
 exact⟨(a.cell (p:=⟨w.heap.size,0,none⟩) d).trans h.c0,(a.cell (p:=⟨w.heap.size,1,none⟩) d).trans h.c1,(a.cell (p:=⟨w.heap.size,2,none⟩) d).trans h.c2,(a.cell (p:=⟨w.heap.size,3,none⟩) d).trans h.c3,
  (a.cell (p:=⟨w.heap.size+1,0,none⟩) c).trans h.d0,(a.cell (p:=⟨w.heap.size+1,1,none⟩) c).trans h.d1,(a.cell (p:=⟨w.heap.size+1,2,none⟩) c).trans h.d2,(a.cell (p:=⟨w.heap.size+1,3,none⟩) c).trans h.d3,
  (a.frozen (p:=⟨w.heap.size+1,0,none⟩) c).trans h.f0,(a.frozen (p:=⟨w.heap.size+1,1,none⟩) c).trans h.f1,(a.frozen (p:=⟨w.heap.size+1,2,none⟩) c).trans h.f2,(a.frozen (p:=⟨w.heap.size+1,3,none⟩) c).trans h.f3⟩
abbrev put4 (w:World) (b:Nat) (s:Int) (neg:Bool) (v:Value) (e:Int):World:=
 (((w.setCell ⟨b,0,none⟩ (.int .i64 s)).setCell ⟨b,1,none⟩ (.bool neg)).setCell ⟨b,2,none⟩ v).setCell ⟨b,3,none⟩ (.int .i64 e)
theorem bT {w w1:World} {B b:Nat} {s:Int} {neg:Bool} {v:Value} {e:Int} (h:Below B w w1) (a:B<=b):Below B w (put4 w1 b s neg v e):=
 (((h.setCell (p:=⟨b,0,none⟩) a _).setCell (p:=⟨b,1,none⟩) a _).setCell (p:=⟨b,2,none⟩) a _).setCell (p:=⟨b,3,none⟩) a _
theorem lG {w:World} {b B M:Nat} {s:Int} {neg:Bool} {v u:Value} {e:Int} (h:DN w u M) (c:From B u) (d:b<B):DN (put4 w b s neg v e) u M:=
 (((h.set c (a:=⟨b,0,none⟩) d _).set c (a:=⟨b,1,none⟩) d _).set c (a:=⟨b,2,none⟩) d _).set c (a:=⟨b,3,none⟩) d _
theorem OI (s:Nat) (t:Nat) (b:s<=3) (a:t=1\/t=2):A.mt s t=if s=0\/s=t then t else 3:=by
 unfold A.mt;rcases a with rfl | rfl
 all_goals rcases (show s=0\/s=1\/s=2\/s=3 by omega) with rfl | rfl | rfl | rfl<;>decide
theorem Mq (s:Nat) (neg b:Bool) (v:Value) (e:Int) (w:World) (c:s<=3) :
  Calls Tryz.prog 150 #[AV (s:Int) neg v e,.bool b] w fun x a=>x=.returned (AV (A.mt s (if b then 2 else 1):Nat) false (.slice none 0 0) 0)/\Below w.heap.size w a:=by
 cases b
 all_goals
  rcases (show s=0\/s=1\/s=2\/s=3 by omega) with rfl | rfl | rfl | rfl
  all_goals
   go_enter Tryz.func150,Tryz.ntmps150
   go_wp2_with fail
   refine bodyPost_ret (v:=.agg #[.int .i64 _,.bool false,.slice none 0 0,.int .i64 0]) (by simp [results,Tryz.results150,go_sem];rfl) rfl ⟨rfl,?_⟩
   exact ((Below.refl _ _).alloc (Nat.le_refl _) _).trans (((Below.refl _ _).alloc (Nat.le_refl _) _).mono (by simp))
structure DV (s:Nat) (neg:Bool) (M:Nat) (e N:Int) (k:Nat):Prop where
 s3:s<=3
 lo: -2148<=e
 hi:e<=2000
 val:sg neg M*((2^(e+2148).toNat:Nat):Int)=N
 none:s≠0->N=0
 bd:∃ K,K=4200/\N.natAbs<=k*2^K
theorem DV.zero {s:Nat} (h:s<=3) (k:Nat):DV s false 0 0 0 k:=
 ⟨h,by decide,by decide,by rw [aT,Int.zero_mul],fun _=>rfl,4200,rfl,Nat.zero_le _⟩
theorem DV.mono {s:Nat} {neg:Bool} {M:Nat} {e N:Int} {k a:Nat} (h:DV s neg M e N k) (c:k<=a):DV s neg M e N a:=by
 obtain⟨K,b,d⟩:=h.bd;exact⟨h.s3,h.lo,h.hi,h.val,h.none,K,b,Nat.le_trans d (Nat.mul_le_mul_right _ c)⟩
theorem DV.le {s:Nat} {neg:Bool} {M:Nat} {e N:Int} {k:Nat} (h:DV s neg M e N k):M<=N.natAbs:=by
 rw [<- h.val,Int.natAbs_mul,bF,Int.natAbs_natCast];exact Nat.le_mul_of_pos_right _ (Nat.two_pow_pos _)
def oe (k:Nat):Prop:=∃ j,j=150/\k<=2^j
theorem oE {k:Nat} (h:k<=1000):oe k:=⟨150,rfl,Nat.le_trans h (by decide)⟩
theorem DV.nd {s:Nat} {neg:Bool} {M:Nat} {e N:Int} {k:Nat} (h:DV s neg M e N k) (a:oe k):nd M<=1000/\nd M<=137:=by
 obtain⟨K,m,i⟩:=h.bd;obtain⟨j,g,a⟩:=a;have d:M<2^(K+j+1):=by
  have f:=h.le;have b:k*2^K<=2^j*2^K:=Nat.mul_le_mul_right _ a;rw [<- Nat.pow_add] at b
  rw [Nat.pow_succ,Nat.add_comm K j];have n:=Nat.two_pow_pos (j+K);generalize 2^(j+K)=P at *
  omega
 obtain⟨c,l⟩:∃ c:Nat,c=137:=⟨_,rfl⟩;have:=bL (N:=M) (k:=c) (Nat.lt_of_lt_of_le d (Nat.pow_le_pow_right (by decide) (by omega)))
 omega
structure PL (M X:Nat) (nm nx:Bool) (e ex E:Int) (n m:Nat) (S T:Int) (k:Nat):Prop where
 hn:M≠0->e - E=(n:Int)
 hm:X≠0->ex - E=(m:Int)
 hn1:n<=5000
 hm1:m<=5000
 lo: -2148<=E
 hi:E<=2000
 hk:E+2148=(k:Int)
 had:nd (M*2^n)<=10000000
 hbd:nd (X*2^m)<=10000000
 val:S*((2^k:Nat):Int)=T
theorem xD {M n:Nat} (h:nd M<=1000) (hn:n<=5000):nd (M*2^n)<=10000000:=by
 have a:M*2^n<2^(32*nd M)*2^n:=Nat.mul_lt_mul_of_pos_right (cZ M) (Nat.two_pow_pos _);rw [<- Nat.pow_add] at a
 have:=bL (N:=M*2^n) (k:=nd M+n / 32+1) (Nat.lt_of_lt_of_le a (Nat.pow_le_pow_right (by decide) (by omega)))
 omega
theorem sX {M n k:Nat} {neg:Bool} {e:Int} (b:M≠0->n+k=(e+2148).toNat):sg neg (M*2^n)*((2^k:Nat):Int)=sg neg M*((2^(e+2148).toNat:Nat):Int):=by
 rw [<- ip,<- ip,Nat.mul_assoc,<- Nat.pow_add]
 by_cases a:M=0
 ·rw [a,Nat.zero_mul,Nat.zero_mul]
 ·rw [b a]
theorem Oa {M X:Nat} {nm nx:Bool} {e ex E:Int} (p: -2148<=e) (g:e<=2000) (s: -2148<=ex) (o:ex<=2000) (j:nd M<=1000) (i:nd X<=1000) (r:iQ M e X ex=E) :
  ∃ n m k,PL M X nm nx e ex E n m (sg nm (M*2^n)+sg nx (X*2^m)) (sg nm M*((2^(e+2148).toNat:Nat):Int)+sg nx X*((2^(ex+2148).toNat:Nat):Int)) k:=by
 have c: -2148<=E/\E<=2000/\(M≠0->E<=e)/\(X≠0->E<=ex):=by
  rw [<- r];unfold iQ
  by_cases a:M=0
  ·rw [if_pos a];refine⟨s,o,fun h=>absurd a h,fun _=>Int.le_refl _⟩
  ·rw [if_neg a]
   by_cases b:X=0
   ·rw [if_pos b];exact⟨p,g,fun _=>Int.le_refl _,fun h=>absurd b h⟩
   ·rw [if_neg b];refine⟨by omega,by omega,fun _=>by omega,fun _=>by omega⟩
 obtain⟨q,l,f,d⟩:=c;refine⟨(e - E).toNat,(ex - E).toNat,(E+2148).toNat,fun h=>by have:=f h;omega,fun h=>by have:=d h;omega,by omega,by omega,q,l,by omega,xD j (by omega),xD i (by omega),?_⟩
 rw [Int.add_mul,sX (e:=e) (fun h=>by have:=f h;omega),sX (e:=ex) (fun h=>by have:=d h;omega)]
theorem CR {s M X d n m k kk kk':Nat} {nm nx a:Bool} {e ex E f T:Int} (h:PL M X nm nx e ex E n m (sg nm (M*2^n)+sg nx (X*2^m)) T k) (p:sg a d=sg nm (M*2^n)+sg nx (X*2^m)) (t:f=E\/(f=0/\d=0)) (j:s=0) (i:∃ K,K=4200/\T.natAbs<=kk*2^K) (g:kk<=kk'):DV s a d f T kk':=by
 obtain⟨K,r,i⟩:=i;have b:=h.val;rw [<- p] at b
 have q:=h.lo;have u:=h.hi;have v:=h.hk;refine⟨by omega,by omega,by omega,?_,fun c=>absurd j c,K,r,Nat.le_trans i (Nat.mul_le_mul_right _ g)⟩
 rcases t with l | ⟨l,o⟩
 ·rw [l,show (E+2148).toNat=k by omega];exact b
 ·rw [o,aT,Int.zero_mul] at b ⊢;exact b
theorem pR {p:Nat} {neg:Bool} {N:Nat} {e:Int} (h:OfR p neg N e) (k:p<18446744073709551616) (hn:af p):aA (p:Int)*((2^(aQ (p:Int)+2148).toNat:Nat):Int)=sg neg N*((2^(e+2148).toNat:Nat):Int)/\az (p:Int)=true/\(N≠0->aA (p:Int)=sg neg N/\aQ (p:Int)=e)/\(N=0->aA (p:Int)=0):=by
 have b:=dR p;have g:=hn;unfold af at g
 have d:az (p:Int)=true:=by unfold az;rw [b];simp;omega
 have f:(N≠0->aA (p:Int)=sg neg N/\aQ (p:Int)=e)/\(N=0->aA (p:Int)=0):=by
  refine⟨fun a=>?_,fun a=>?_⟩
  ·obtain⟨i,m⟩:=h.mag a;have j:p % 9223372036854775808≠0:=by
    intro t;rw [t] at i;exact a (by rw [i];decide)
   have q:fZ ((p % 9223372036854775808:Nat):Int)=(mg (p % 9223372036854775808):Int):=by
    generalize p % 9223372036854775808=r at *
    unfold fZ mg
    by_cases c:r<4503599627370496
    ·rw [if_pos c,if_pos (by omega)]
    ·rw [if_neg c,if_neg (by omega)];omega
   have o:kw ((p % 9223372036854775808:Nat):Int)= -1074+(pl (p % 9223372036854775808):Int):=by
    generalize p % 9223372036854775808=r at *
    unfold kw pl
    by_cases c:r<4503599627370496
    ·rw [if_pos (by omega)];omega
    ·rw [if_neg (by omega)];omega
   constructor
   ·unfold aA;rw [d,if_pos rfl,b,q,<- i,fQ k,<- h.sgn a]
    rfl
   ·unfold aQ;rw [d,b,o,<- m,show decide (((p % 9223372036854775808:Nat):Int)≠0)=true by simpa using fun h=>j (by omega)]
    rfl
  ·have n:p % 9223372036854775808=0:=by
    have:=h.val;rw [a,Nat.zero_mul] at this
    have l:=eX (r:=p % 9223372036854775808) (s:=0);rw [bp] at l
    exact l.1 this.symm
   unfold aA;rw [d,if_pos rfl,b,n,show fZ ((0:Nat):Int)=0 from rfl]
   split<;>rfl
 refine⟨?_,d,f⟩
 by_cases a:N=0
 ·rw [f.2 a,a,aT,Int.zero_mul,Int.zero_mul]
 ·rw [(f.1 a).1,(f.1 a).2]
theorem Mr {x:Nat} {nx:Bool} {X:Nat} {ex:Int} (h:OfR x nx X ex) (a:x<18446744073709551616) (hn:af x):sg nx X*((2^(ex+2148).toNat:Nat):Int)=A.nE (x:Int):=by
 rw [<- (pR h a hn).1];unfold A.nE;rw [Int.natCast_pow];rfl
theorem Is {x:Nat} {nx:Bool} {X:Nat} {ex:Int} (h:OfR x nx X ex):∃ K,K=4200/\(sg nx X*((2^(ex+2148).toNat:Nat):Int)).natAbs<=1*2^K:=by
 refine⟨4200,rfl,?_⟩
 obtain⟨K,b⟩:∃ K:Nat,K=4200:=⟨_,rfl⟩;rw [<- b];rw [Int.natAbs_mul,bF,Int.natAbs_natCast,Nat.one_mul];have c:=h.lt;have d:=h.hi;have a:X*2^(ex+2148).toNat<=2^53*2^(ex+2148).toNat:=Nat.mul_le_mul_right _ (by omega)
 rw [<- Nat.pow_add] at a
 exact Nat.le_trans a (Nat.pow_le_pow_right (by decide) (by omega))
theorem It {A B:Int} {k:Nat} (g:∃ K,K=4200/\A.natAbs<=k*2^K) (f:∃ K,K=4200/\B.natAbs<=1*2^K):∃ K,K=4200/\(A+B).natAbs<=(k+1)*2^K:=by
 obtain⟨K,d,a⟩:=g;obtain⟨c,e,b⟩:=f;have:c=K:=by omega
 subst this;refine⟨c,d,?_⟩
 rw [Nat.add_mul];generalize k*2^c=P at *
 generalize 1*2^c=Q at *
 omega
theorem fT {w1 w:World} {s:Int} {neg:Bool} {v:Value} {e:Int} (h:Cells8 w1 w s neg v e):Cells8 w1.drew w s neg v e:=⟨h.c0,h.c1,h.c2,h.c3,h.d0,h.d1,h.d2,h.d3,h.f0,h.f1,h.f2,h.f3⟩
theorem cW {A B:Nat} {v:Value} (h:From B v) (b:A<=B):From A v:=fun a l c e=>Nat.le_trans b (h a l c e)
def cj (w:World) (v:Value) (M:Nat) (a:A.St) (k:Nat) (r:Ending) (e:World):Prop:=
 ∃ b c d f,r=.returned (AV (a.s:Int) b c f)/\DN e c d/\(c=v/\d=M\/From w.heap.size c)/\DV a.s b d f a.N k/\Below w.heap.size w e
theorem nF {w b:World} {v:Value} {M:Nat} {a:A.St} {k:Nat} {s:Int} (d:(a.s:Int)=s) (e:a.s<=3) (c:a.N=0) (f:Below w.heap.size w b) :
  cj w v M a k (.returned (AV s false (.slice none 0 0) 0)) b:=by
 refine⟨false,.slice none 0 0,0,0,by rw [d],Or.inl ⟨rfl,_,_,rfl⟩,Or.inr (gu _),by rw [c];exact DV.zero e k,f⟩
theorem Ew (s:Nat) (N:Int) (a:s<=3):A.St.merge ⟨s,N⟩ ⟨3,0⟩=⟨3,0⟩:=by
 unfold A.St.merge A.mt;rcases (show s=0\/s=1\/s=2\/s=3 by omega) with rfl | rfl | rfl | rfl<;>rfl
theorem iz {s:Nat} {N M:Int}:A.St.merge ⟨s,N⟩ ⟨0,M⟩=⟨s,if s=0 then N+M else 0⟩:=by
 unfold A.St.merge;have e:A.mt s 0=s:=by simp [A.mt]
 simp only [e]
theorem Iu {u:Int} (h:ah u=true):A.dB u=⟨3,0⟩:=by
 have a:az u=false:=by
  unfold az;unfold ah at h
  rw [decide_eq_true_eq] at h
  rw [decide_eq_false_iff_not];omega
 unfold A.dB A.endN;rw [a,h];rfl
theorem Iv {u:Int} (h:aY u=true):A.dB u=⟨if sgB u then 2 else 1,0⟩:=by
 have a:szI u=9218868437227405312:=by unfold aY at h;simpa using h
 have b:az u=false:=by unfold az;rw [a];rfl
 have c:ah u=false:=by unfold ah;rw [a];rfl
 unfold A.dB A.endN;rw [b,c];rfl
theorem Iw (s:Nat) (neg:Bool) (v:Value) (M:Nat) (e:Int) (N:Int) (k:Nat) (u:Int) (w:World) (i:s<=3) (h:U64 u) (hn:ah u=true) :
  Calls Tryz.prog 109 #[AV (s:Int) neg v e,.int .u64 u] w (cj w v M (A.St.merge ⟨s,N⟩ (A.dB u)) k):=by
 have f:=aa (aj u · h);rw [hn] at f
 obtain⟨c,b⟩:∃ c,A.St.merge ⟨s,N⟩ (A.dB u)=c:=⟨_,rfl⟩;have d:Hid (c=⟨3,0⟩):=by show _=_;rw [<- b,Iu hn,Ew s N i]
 rw [b];have g:=aa (dL w (s:Int) neg v e);have o:=aa (dh w (s:Int) neg v e);obtain⟨c0,c1,c2,c3,p,j,q,t,n,m,y,l⟩:=g.out;clear h hn b
 go_enter Tryz.func109,Tryz.ntmps109
 go_wp2_with fail
 refine (aG (f.out _)).mono ?_
 rintro x r ⟨rfl,rfl⟩
 go_wp2_with fail
 refine bodyPost_ret (v:=.agg #[.int .i64 3,.bool false,.slice none 0 0,.int .i64 0]) (by simp [results,Tryz.results109,go_sem]) rfl ?_
 exact nF (v:=v) (M:=M) (a:=c) (k:=k) (s:=3) (by rw [d.out];rfl) (by rw [d.out];decide) (by rw [d.out]) (((Below.refl _ _).alloc (Nat.le_refl _) _).trans (((Below.refl _ _).alloc (Nat.le_refl _) _).mono (by simp)))
theorem Ix (s:Nat) (neg:Bool) (v:Value) (M:Nat) (e:Int) (N:Int) (k:Nat) (u:Int) (w:World) (B:s<=3) (h:U64 u) (hn:ah u=false) (hi:aY u=true) :
  Calls Tryz.prog 109 #[AV (s:Int) neg v e,.int .u64 u] w (cj w v M (A.St.merge ⟨s,N⟩ (A.dB u)) k):=by
 have E:=aa (aj u · h);have C:=aa (aw u · h);rw [hn] at E
 rw [hi] at C
 obtain⟨b,n⟩:∃ b,sgB u=b:=⟨_,rfl⟩;have y:Hid (∀ w,Calls Tryz.prog 151 #[.int .u64 u] w fun e t=>e=.returned (.bool b)/\w=t):=fun w=>by
  have:=bV u w;rw [n] at this
  exact aG this
 obtain⟨q,f⟩:∃ q,A.St.merge ⟨s,N⟩ (A.dB u)=q:=⟨_,rfl⟩;obtain⟨m,o⟩:∃ m:Nat,A.mt s (if b then 2 else 1)=m:=⟨_,rfl⟩
 have l:m<=3:=by rw [<- o];exact A.NY B (by split<;>omega)
 have j:m≠0:=by
  rw [<- o,OI s _ B (by cases b<;>simp)]
  cases b<;>simp<;>split<;>omega
 have r:Hid (q=⟨m,0⟩):=by
  show _=_
  rw [<- f,Iv hi,n];unfold A.St.merge;dsimp only;rw [o,if_neg j]
 rw [f];have c:=aa fun w=>Mq s neg b v e w B
 rw [o] at c
 obtain⟨p,i⟩:∃ p:Int,(m:Int)=p:=⟨_,rfl⟩;rw [i] at c
 have G:=aa fun (I:World) (n:Below w.heap.size w I)=>nF (v:=v) (M:=M) (a:=q) (k:=k) (s:=p) (by rw [r.out];exact i) (by rw [r.out];exact l) (by rw [r.out]) n
 have F:=aa (dL w (s:Int) neg v e);have H:=aa (dh w (s:Int) neg v e);have D:=aa (iw w (s:Int) neg v e);obtain⟨c0,c1,c2,c3,V,P,W,X,S,R,Z,Q⟩:=F.out;clear h hn hi f n o j l i r
 go_enter Tryz.func109,Tryz.ntmps109
 go_wp2_with fail
 refine (aG (E.out _)).mono ?_
 rintro x t ⟨rfl,rfl⟩
 go_wp2_with fail
 refine (aG (C.out _)).mono ?_
 rintro x t ⟨rfl,rfl⟩
 go_wp2_with fail
 go_region_with (first | ((go_at_call 151;refine (y.out _).mono ?_;rintro x t ⟨rfl,rfl⟩)) | ((go_at_call 150;refine (c.out _).mono ?_;rintro x T ⟨rfl,g⟩;have z:=aa (H.out.drew.trans (g.mono (show w.heap.size<=(boxA2 w (s:Int) neg v e).heap.size by rw [D.out];omega)));have d:=aa (Cells8.below (fT F.out) g (show w.heap.size+1<(boxA2 w (s:Int) neg v e).heap.size by rw [D.out];omega));have J:=d.out.d0;have O:=d.out.d1;have K:=d.out.d2;have L:=d.out.d3;have l0:=d.out.f0;have U:=d.out.f1;have l2:=d.out.f2;have Y:=d.out.f3;clear g)))
 all_goals
  go_wp2_with fail
  refine bodyPost_ret (v:=.agg #[.int .i64 p,.bool false,.slice none 0 0,.int .i64 0]) (by simp [results,Tryz.results109,go_sem,J,O,K,L]) rfl ?_
  exact G.out _ (bT z.out (by omega))
theorem Ex (s:Nat) (neg:Bool) (v:Value) (M:Nat) (e:Int) (N:Int) (k x:Nat) (u:Int) (w:World) (g:DN w v M) (j:DV s neg M e N k) (b:s≠0) (h:U64 u) (hn:ah u=false) (hi:aY u=false) (i:u=(x:Int)) :
  Calls Tryz.prog 109 #[AV (s:Int) neg v e,.int .u64 u] w (cj w v M (A.St.merge ⟨s,N⟩ (A.dB u)) (k+1)):=by
 have n:=aa (aj u · h);have m:=aa (aw u · h);rw [hn] at n
 rw [hi] at m
 obtain⟨f,a⟩:∃ f,A.St.merge ⟨s,N⟩ (A.dB u)=f:=⟨_,rfl⟩;have y:Hid (f=⟨s,N⟩):=by
  show _=_
  have t:az u=true:=by
   have:=fx i hn hi;unfold af at this
   unfold az;rw [i,dR];simp;omega
  have q:A.dB u=⟨0,A.nE u⟩:=by unfold A.dB;rw [t];rfl
  rw [<- a,q,iz,if_neg b,j.none b]
 rw [a];obtain⟨p,l,c,rfl⟩:=g.shape;have D:=aa g;have B:=aa (j.mono (show k<=k+1 by omega))
 have z:(((s:Int) !=0))=true:=by simp;omega
 have o:((s:Int)==0)=false:=by simp;omega
 have r:=aa (dL w (s:Int) neg (.slice p l c) e);have I:=aa (dh w (s:Int) neg (.slice p l c) e);obtain⟨c0,c1,c2,c3,J,E,K,L,H,G,O,F⟩:=r.out;clear h hn hi a g j i b
 go_enter Tryz.func109,Tryz.ntmps109
 go_wp2_with fail
 refine (aG (n.out _)).mono ?_
 rintro x C ⟨rfl,rfl⟩
 go_wp2_with fail
 refine (aG (m.out _)).mono ?_
 rintro x C ⟨rfl,rfl⟩
 go_wp2_with fail
 refine bodyPost_ret (v:=.agg #[.int .i64 (s:Int),.bool neg,.slice p l c,.int .i64 e]) (by simp [results,Tryz.results109,go_sem]) rfl ?_
 have d:Below w.heap.size w ((w.alloc (.cells #[.int .i64 (s:Int),.bool neg,.slice p l c,.int .i64 e] 85)).alloc (.cells #[.int .i64 (s:Int),.bool neg,.slice p l c,.int .i64 e] 85)):=((Below.refl _ _).alloc (Nat.le_refl _) _).trans (((Below.refl _ _).alloc (Nat.le_refl _) _).mono (by simp))
 rw [y.out];exact⟨neg,.slice p l c,M,e,rfl,D.out.below d,Or.inl ⟨rfl,rfl⟩,B.out,d⟩
theorem Iy (neg:Bool) (v:Value) (M:Nat) (e:Int) (N:Int) (k x:Nat) (u:Int) (w:World) (L:DN w v M) (hv:DV 0 neg M e N k) (hk:oe k) (h:U64 u) (hn:ah u=false) (hi:aY u=false) (D:Hid (u=(x:Int))) :
  Calls Tryz.prog 109 #[AV 0 neg v e,.int .u64 u] w (cj w v M (A.St.merge ⟨0,N⟩ (A.dB u)) (k+1)):=by
 have HN:=aa (aj u · h);have HI:=aa (aw u · h);rw [hn] at HN
 rw [hi] at HI
 have f:=fx D.out hn hi;have j:x<18446744073709551616:=by have:=h.2;rw [D.out] at this;omega
 have HO:=aa fun w=>eC x u w D h f
 obtain⟨P,q⟩:∃ P,A.St.merge ⟨0,N⟩ (A.dB u)=P:=⟨_,rfl⟩;have HT:Hid (P=⟨0,N+A.nE (x:Int)⟩):=by
  show _=_
  have h1:az u=true:=by
   unfold af at f
   unfold az;rw [D.out,dR];simp;omega
  have h2:A.dB u=⟨0,A.nE u⟩:=by unfold A.dB;rw [h1];rfl
  rw [<- q,h2,iz,if_pos rfl,D.out]
 rw [q];obtain⟨p,l,c,rfl⟩:=L.shape;have HD:=aa fun Y (hb:Below w.heap.size w Y)=>L.below hb
 have y:=aa hv;have H8:=aa (dL w 0 neg (.slice p l c) e);have HB:=aa (dh w 0 neg (.slice p l c) e);have V:=aa (iw w 0 neg (.slice p l c) e);have HX:=aa (And.intro f j);obtain⟨c0,c1,c2,c3,d0,d1,d2,d3,f0,f1,f2,f3⟩:=H8.out;clear h hn hi q L hv f j
 go_enter Tryz.func109,Tryz.ntmps109
 go_wp2_with fail
 refine (aG (HN.out _)).mono ?_
 rintro x Y ⟨rfl,rfl⟩
 go_wp2_with fail
 refine (aG (HI.out _)).mono ?_
 rintro x Y ⟨rfl,rfl⟩
 go_wp2_with fail
 go_region_with (first | ((go_at_call 74;refine (HO.out _).mono ?_;rintro r K ⟨nx,vx,X,I,rfl,o,Z,g⟩;obtain⟨px,lx,cx,rfl⟩:=o.shape;have z:=aa (HB.out.drew.trans (g.mono (show w.heap.size<=(boxA2 w 0 neg (.slice p l c) e).heap.size by rw [V.out];omega)));have J:=aa (Cells8.below (fT H8.out) g (show w.heap.size+1<(boxA2 w 0 neg (.slice p l c) e).heap.size by rw [V.out];omega));have R:w.heap.size+2<=K.heap.size:=(by have h9:=g.size;have h8:(boxA2 w 0 neg (.slice p l c) e).heap.size<=K.heap.size:=h9;rw [V.out] at h8;exact h8);have T:=aa o;have b:=aa Z;have g1:=J.out.c1;have g2:=J.out.c2;have g3:=J.out.c3;clear g o Z)) | ((go_at_call 73;obtain⟨E,S⟩:∃ E,iQ M e X I=E:=⟨_,rfl⟩;obtain⟨n,m,kk,a⟩:=Oa (nm:=neg) (nx:=nx) y.out.lo y.out.hi (show -2148<=I by have:=b.out.lo;omega) (show I<=2000 by have:=b.out.hi;omega) (y.out.nd hk).1 (show nd X<=1000 by have:=dr b.out.lt;omega) S;refine (po neg nx (.slice p l c) (.slice px lx cx) e I E M X n m K (HD.out _ z.out) T.out S a.hn a.hm (by have:=a.hn1;omega) (by have:=a.hm1;omega) (by have:=y.out.nd hk;omega) (by have:=dr b.out.lt;omega) a.had a.hbd).mono ?_;rintro r w4 ⟨d,v',N',W,rfl,B,G,H,F,t⟩;obtain⟨p4,l4,c4,rfl⟩:=B.shape;have Q:Hid (DV 0 d N' W (N+A.nE (x:Int)) (k+1)):=(by have hT:=CR (s:=0) (kk:=k+1) (kk':=k+1) a H F rfl (by rw [y.out.val];exact It y.out.bd (Is b.out)) (Nat.le_refl _);rw [y.out.val,Mr b.out HX.out.2 HX.out.1] at hT;exact hT);have O:=aa (z.out.trans (t.mono z.out.size));have i:=aa (J.out.below t (show w.heap.size+1<K.heap.size by omega));have U:=aa B;have C:=aa (cW G R);have k0:=i.out.d0;have k1:=i.out.d1;have k2:=i.out.d2;have k3:=i.out.d3;have l0:=i.out.f0;have l1:=i.out.f1;have l2:=i.out.f2;have l3:=i.out.f3;clear B G H F t a S)))
 all_goals
  go_wp2_with fail
  refine bodyPost_ret (v:=.agg #[.int .i64 0,.bool d,.slice p4 l4 c4,.int .i64 W]) (by simp [results,Tryz.results109,go_sem,k0,k1,k2,k3]) rfl ?_
  rw [HT.out];exact⟨d,_,N',W,rfl,lG U.out C.out (by omega),Or.inr (cW C.out (by omega)),Q.out,bT O.out (by omega)⟩
theorem QK (s:Nat) (neg:Bool) (v:Value) (M:Nat) (e:Int) (N:Int) (k x:Nat) (u:Int) (w:World) (d:DN w v M) (b:DV s neg M e N k) (g:oe k) (h:U64 u) (f:Hid (u=(x:Int))) :
  Calls Tryz.prog 109 #[AV (s:Int) neg v e,.int .u64 u] w (cj w v M (A.St.merge ⟨s,N⟩ (A.dB u)) (k+1)):=by
 cases a:ah u with
 | true=>exact Iw s neg v M e N (k+1) u w b.s3 h a
 | false=>
  cases hi:aY u with
  | true=>exact Ix s neg v M e N (k+1) u w b.s3 h a hi
  | false=>
   by_cases c:s=0
   ·subst c;exact Iy neg v M e N k x u w d b g h a hi f
   ·exact Ex s neg v M e N k x u w d b c h a hi f.out
end Go.Proofs.YtfdddijdjpijbaaGreat
namespace Go.Proofs.YtfdddijdjpijbaaGreat.A
open Go.RowKit
theorem Ms {o:Option Nat} {r:Nat} (h:Ag o r):dB (r:Int)=dB (cn o:Int):=by
 cases o with
 | some q=>rw [cR h,ar]
 | none=>
  have f:∀ {b:Nat},ah (b:Int)=true->dB (b:Int)=⟨3,0⟩:=fun {b} a=>by
   have c:az (b:Int)=false:=by
    unfold az;unfold ah at a
    rw [decide_eq_true_eq] at a
    rw [decide_eq_false_iff_not];omega
   unfold dB endN;rw [c,a];rfl
  rw [f (ik h).1,lu,f pI]
def bn (x y:Nat):St:=if az (x:Int)&&az (y:Int) then fF (x:Int) (y:Int) else dB (cn (floatBits .mul .f64 x y):Int)
theorem Iz (B b:Nat) (v:Value) (L:Nat) (a:St) (x y:Nat) (w:World) (h:AccAt w B b v L a) (D:B<=w.heap.size) (s:U64 (x:Int)) (t:U64 (y:Int)) (c:(az (x:Int)&&az (y:Int))=false) (E:L<=40000) :
  Calls Tryz.prog 89 #[.pointer (some ⟨b,0,none⟩),.float .f64 x,.float .f64 y] w fun r k=>r=.returned (.tuple #[])/\∃ q C,Did (w.drewN q) k B b v (max L 70+1) (a.merge (bn x y)) C:=by
 have m:=hideS (fu x x w rfl s);have i:=hideS (fu y y w rfl t);obtain⟨r,⟨q,F⟩,g⟩:=dM .mul (by simp) 27 x y w
 have d:r<18446744073709551616:=by
  cases o:floatBits .mul .f64 x y with
  | none=>rw [o] at g;exact (ik g).2
  | some z=>rw [o] at g;rw [cR g];exact jb (by simp) o
 have f:=hideS (Mp B b v L a r r (w.drewN q) (h.drewN q) D rfl (ag d) E);have u:Hid (a.merge (dB (r:Int))=a.merge (bn x y)):=by
  show _=_
  unfold bn;rw [c,if_neg (by decide),Ms g]
 rw [u.out] at f
 clear h s t g d u;cases j:az (x:Int)
 ·rw [j] at m
  clear c j
  go_enter Tryz.func89,Tryz.ntmps89
  go_wp2_with fail
  refine (turned m.out).mono ?_
  rintro e k ⟨rfl,rfl⟩
  go_wp2_with fail
  refine (turned i.out).mono ?_
  rintro e k ⟨rfl,rfl⟩
  go_wp2_with fail
  refine f.out.mono ?_
  rintro e A ⟨rfl,n,l⟩;have p:=hideS l;clear l
  go_wp2_with fail
  first | go_end0 | refine bodyPost_ret (results_none rfl _ _ _) rfl ?_
  exact⟨rfl,q,n,p.out⟩
 ·rw [j,Bool.true_and] at c
  rw [j] at m
  rw [c] at i
  clear c j
  go_enter Tryz.func89,Tryz.ntmps89
  go_wp2_with fail
  refine (turned m.out).mono ?_
  rintro e k ⟨rfl,rfl⟩
  go_wp2_with fail
  refine (turned i.out).mono ?_
  rintro e k ⟨rfl,rfl⟩
  go_wp2_with fail
  refine f.out.mono ?_
  rintro e A ⟨rfl,n,l⟩;have p:=hideS l;clear l
  go_wp2_with fail
  first | go_end0 | refine bodyPost_ret (results_none rfl _ _ _) rfl ?_
  exact⟨rfl,q,n,p.out⟩
theorem gH (B b:Nat) (v:Value) (L:Nat) (a:St) (x y:Nat) (w:World) (h:AccAt w B b v L a) (g:B<=w.heap.size) (f:U64 (x:Int)) (i:U64 (y:Int)) (j:L<=40000) :
  Calls Tryz.prog 89 #[.pointer (some ⟨b,0,none⟩),.float .f64 x,.float .f64 y] w fun r k=>r=.returned (.tuple #[])/\∃ q d,Did (w.drewN q) k B b v (max L 70+1) (a.merge (bn x y)) d:=by
 cases c:(az (x:Int)&&az (y:Int)) with
 | false=>exact Iz B b v L a x y w h g f i c j
 | true=>
  rw [Bool.and_eq_true] at c
  have e:bn x y=fF (x:Int) (y:Int):=by unfold bn;rw [c.1,c.2];rfl
  rw [e];exact (xA B b v L a x y x y w h g rfl f rfl i c.1 c.2 j).mono fun _ _ ⟨m,d,l⟩=>⟨m,0,d,l⟩
end Go.Proofs.YtfdddijdjpijbaaGreat.A
namespace Go.Proofs.YtfdddijdjpijbaaGreat
open Go.RowKit
theorem uU {w n m:World} {v:Value} {M k:Nat} {a:A.St} {s:Int} {neg:Bool} {e:Int} {r:Ending} (y:DN w v M) (l:Below w.heap.size w n) (q:w.heap.size+2<=n.heap.size) (h:cj n v M a k r m) (z:Cells8 n w s neg v e) :
  ∃ c f d c4 o,r=.returned (AV (a.s:Int) c (.slice f d c4) o)/\Cells8 m w s neg v e/\cj w v M a k (.returned (AV (a.s:Int) c (.slice f d c4) o)) (put4 m (w.heap.size+1) (a.s:Int) c (.slice f d c4) o):=by
 obtain⟨c,B,x,t,rfl,g,b,p,j⟩:=h;obtain⟨f,d,c4,rfl⟩:=g.shape;have i:Below w.heap.size w m:=l.trans (j.mono l.size);refine⟨c,f,d,c4,t,rfl,z.below j (by omega),c,_,x,t,rfl,?_,?_,p,bT i (by omega)⟩
 ·rcases b with⟨b,u⟩| b
  ·rw [b,u];exact y.below (bT i (by omega))
  ·exact lG g (cW b q) (by omega)
 ·rcases b with b | b
  ·exact Or.inl b
  ·exact Or.inr (cW b (by omega))
theorem Ey (s:Nat) (neg:Bool) (v:Value) (M:Nat) (e:Int) (N:Int) (k x y:Nat) (u t:Int) (w:World) (H:DN w v M) (hv:DV s neg M e N k) (W:oe k) (h:U64 u) (R:U64 t) (O:Hid (u=(x:Int))) (J:Hid (t=(y:Int))) (a:(az u&&az t)=false) :
  Calls Tryz.prog 67 #[AV (s:Int) neg v e,.int .u64 u,.int .u64 t] w (cj w v M (A.St.merge ⟨s,N⟩ (A.bn x y)) (k+1)):=by
 have G:=aa (bZ u · h);have C:=aa (bZ t · R);obtain⟨z,q⟩:∃ z:Int,z=(cn (floatBits .mul .f64 x y):Int):=⟨_,rfl⟩;have HM:Hid (∀ w,Calls Tryz.prog 63 #[.int .u64 u,.int .u64 t] w fun e f=>e=.returned (.int .u64 z)/\Below w.heap.size w f):=fun w=>by rw [q];exact cU x y u t w O J h R
 obtain⟨E,o⟩:∃ E,A.St.merge ⟨s,N⟩ (A.bn x y)=E:=⟨_,rfl⟩;have g:U64 z:=by rw [q];exact ag (xc (by simp) _ _)
 have i:A.St.merge ⟨s,N⟩ (A.dB z)=E:=by
  rw [<- o];unfold A.bn;rw [<- O.out,<- J.out,a,if_neg (by decide),q]
 have I:Hid (∀ f,Below w.heap.size w f->Calls Tryz.prog 109 #[AV (s:Int) neg v e,.int .u64 z] f (cj f v M E (k+1))):=fun f hb=>by
  rw [<- i];exact QK s neg v M e N k _ z f (H.below hb) hv W g q
 rw [o];obtain⟨p,l,c,rfl⟩:=H.shape;have HD:=aa H;have S:=aa (dL w (s:Int) neg (.slice p l c) e);have Z:=aa (dh w (s:Int) neg (.slice p l c) e);have Q:=aa (iw w (s:Int) neg (.slice p l c) e);obtain⟨c0,c1,c2,c3,d0,d1,d2,d3,f0,f1,f2,f3⟩:=S.out;obtain⟨L,n⟩:∃ L,az u=L:=⟨_,rfl⟩;obtain⟨K,m⟩:∃ K,az t=K:=⟨_,rfl⟩;rw [n] at G
 rw [m] at C
 rw [n,m] at a
 clear h R H q g o i O J n m;cases L<;>cases K
 all_goals first | (exact absurd a (by decide)) | skip
 all_goals
  clear a
  go_enter Tryz.func67,Tryz.ntmps67
  go_wp2_with (first | (go_at_call_of 41 (Value.int IntKind.u64 u);refine (aG (G.out _)).mono ?_;rintro x f ⟨rfl,rfl⟩) | (go_at_call_of 41 (Value.int IntKind.u64 t);refine (aG (C.out _)).mono ?_;rintro x f ⟨rfl,rfl⟩))
  go_region_with (first | ((go_at_call 63;refine (HM.out _).mono ?_;rintro x V ⟨rfl,d⟩;have F:=aa (Z.out.drew.trans (d.mono (show w.heap.size<=(boxA2 w (s:Int) neg (.slice p l c) e).heap.size by rw [Q.out];omega)));have D:=aa (Cells8.below (fT S.out) d (show w.heap.size+1<(boxA2 w (s:Int) neg (.slice p l c) e).heap.size by rw [Q.out];omega));have P:w.heap.size+2<=V.heap.size:=(by have h9:=d.size;have U:(boxA2 w (s:Int) neg (.slice p l c) e).heap.size<=V.heap.size:=h9;rw [Q.out] at U;exact U);have g0:=D.out.c0;have g1:=D.out.c1;have g2:=D.out.c2;have g3:=D.out.c3;clear d)) | ((go_at_call 109;refine (I.out _ F.out).mono ?_;intro r w4 j;obtain⟨B,p4,X,c4,e4,rfl,b,T⟩:=uU HD.out F.out P j D.out;have Y:=aa T;have k0:=b.d0;have k1:=b.d1;have k2:=b.d2;have k3:=b.d3;have l0:=b.f0;have l1:=b.f1;have l2:=b.f2;have l3:=b.f3;clear j T b)))
  all_goals
   go_wp2_with fail
   refine bodyPost_ret (v:=.agg #[.int .i64 (E.s:Int),.bool B,.slice p4 X c4,.int .i64 e4]) (by simp [results,Tryz.results67,go_sem,k0,k1,k2,k3]) rfl ?_
   exact Y.out
theorem AN (s:Nat) (neg:Bool) (v:Value) (M:Nat) (e:Int) (N:Int) (k x y:Nat) (u t:Int) (w:World) (n:DN w v M) (o:DV s neg M e N k) (f:s≠0) (h:U64 u) (B:U64 t) (z:u=(x:Int)) (q:t=(y:Int)) (b:az u=true) (a:az t=true) :
  Calls Tryz.prog 67 #[AV (s:Int) neg v e,.int .u64 u,.int .u64 t] w (cj w v M (A.St.merge ⟨s,N⟩ (A.bn x y)) (k+1)):=by
 have g:=aa (bZ u · h);have i:=aa (bZ t · B);rw [b] at g
 rw [a] at i
 obtain⟨m,d⟩:∃ m,A.St.merge ⟨s,N⟩ (A.bn x y)=m:=⟨_,rfl⟩;have D:Hid (m=⟨s,N⟩):=by
  show _=_
  rw [<- d];unfold A.bn;rw [<- z,<- q,b,a]
  show A.St.merge ⟨s,N⟩ (A.fF u t)=_
  unfold A.fF;rw [iz,if_neg f,o.none f]
 rw [d];obtain⟨p,l,c,rfl⟩:=n.shape;have H:=aa n;have F:=aa (o.mono (show k<=k+1 by omega))
 have E:(((s:Int) !=0))=true:=by simp;omega
 have r:((s:Int)==0)=false:=by simp;omega
 have C:=aa (dL w (s:Int) neg (.slice p l c) e);obtain⟨c0,c1,c2,c3,O,I,P,Q,L,K,R,J⟩:=C.out;clear h B d n o z q f b a
 go_enter Tryz.func67,Tryz.ntmps67
 go_wp2_with (first | (go_at_call_of 41 (Value.int IntKind.u64 u);refine (aG (g.out _)).mono ?_;rintro x G ⟨rfl,rfl⟩) | (go_at_call_of 41 (Value.int IntKind.u64 t);refine (aG (i.out _)).mono ?_;rintro x G ⟨rfl,rfl⟩))
 refine bodyPost_ret (v:=.agg #[.int .i64 (s:Int),.bool neg,.slice p l c,.int .i64 e]) (by simp [results,Tryz.results67,go_sem]) rfl ?_
 have j:Below w.heap.size w ((w.alloc (.cells #[.int .i64 (s:Int),.bool neg,.slice p l c,.int .i64 e] 85)).alloc (.cells #[.int .i64 (s:Int),.bool neg,.slice p l c,.int .i64 e] 85)):=((Below.refl _ _).alloc (Nat.le_refl _) _).trans (((Below.refl _ _).alloc (Nat.le_refl _) _).mono (by simp))
 rw [D.out];exact⟨neg,.slice p l c,M,e,rfl,H.out.below j,Or.inl ⟨rfl,rfl⟩,F.out,j⟩
def Three (a:World) (B:Nat) (neg:Bool) (v:Value) (e:Int):Prop:=
 a.cell? ⟨B,1,none⟩=some (.bool neg)/\a.cell? ⟨B,2,none⟩=some v/\a.cell? ⟨B,3,none⟩=some (.int .i64 e)
theorem Cells8.three {w1 w:World} {s:Int} {neg:Bool} {v:Value} {e:Int} (h:Cells8 w1 w s neg v e):Three w1 w.heap.size neg v e:=⟨h.c1,h.c2,h.c3⟩
theorem Ez {w:World} {B:Nat} {neg d:Bool} {v l:Value} {e k g:Int} (h:Three w B neg v e):Three (put4 w (B+1) g d l k) B neg v e:=by
 have m:B+1≠B:=by omega
 have f:∀ (i j:Nat) (w:World) (x:Value),(w.setCell ⟨B+1,i,none⟩ x).cell? ⟨B,j,none⟩=w.cell? ⟨B,j,none⟩:=fun i j w x=>World.cell?_setCell_far w ⟨B+1,i,none⟩ ⟨B,j,none⟩ x m
 obtain⟨a,b,c⟩:=h;refine⟨?_,?_,?_⟩
 ·rw [f,f,f,f];exact a
 ·rw [f,f,f,f];exact b
 ·rw [f,f,f,f];exact c
theorem Ql {E ex ey:Int} {N:Nat} (h:E=ex+ey\/(E=0/\N=0)) (b: -1074<=ex) (c:ex<=971) (a: -1074<=ey) (d:ey<=971): -2148<=E/\E<=2000:=by
 rcases h with h | ⟨h,_⟩ <;>omega
theorem EA {x y X Y:Nat} {nx u:Bool} {ex ey:Int} (l:OfR x nx X ex) (n:OfR y u Y ey) (g:x<18446744073709551616) (d:y<18446744073709551616) (p:af x) (o:af y) {neg N E} (v:sg neg N=sg nx X*sg u Y) (t:E=ex+ey\/(E=0/\N=0)) :
  sg neg N*((2^(E+2148).toNat:Nat):Int)=aA (x:Int)*aA (y:Int)*2^(aQ (x:Int)+aQ (y:Int)+2148).toNat/\-2148<=E/\E<=2000/\nd N<=1000/\∃ K,K=4200/\(sg neg N*((2^(E+2148).toNat:Nat):Int)).natAbs<=1*2^K:=by
 obtain⟨_,_,i,s⟩:=pR l g p;obtain⟨_,_,j,r⟩:=pR n d o;have m:N=X*Y:=by
  have:=congrArg Int.natAbs v;rw [Int.natAbs_mul,bF,bF,bF] at this;exact this
 have D:=l.lo;have H:=l.hi;have G:=n.lo;have A:=n.hi;have B:N<9007199254740992*9007199254740992:=by rw [m];exact Nat.mul_lt_mul'' l.lt n.lt
 have q:nd N<=1000:=Nat.le_trans (bL (k:=4) (by omega)) (by omega)
 obtain⟨C,z⟩:=Ql t D H G A;refine⟨?_,C,z,q,4200,rfl,?_⟩
 ·by_cases a:N=0
  ·rw [a,aT,Int.zero_mul];have:X=0\/Y=0:=by rw [m] at a;exact Nat.mul_eq_zero.1 a
   rcases this with c | c
   ·rw [s c,Int.zero_mul,Int.zero_mul]
   ·rw [r c,Int.mul_zero,Int.zero_mul]
  ·have e:X≠0:=fun c=>a (by rw [m,c,Nat.zero_mul])
   have b:Y≠0:=fun c=>a (by rw [m,c,Nat.mul_zero])
   have f:E=ex+ey:=by
    rcases t with h | ⟨_,h⟩
    ·exact h
    ·exact absurd h a
   rw [v,f,(i e).1,(i e).2,(j b).1,(j b).2,Int.natCast_pow];rfl
 ·obtain⟨K,F⟩:∃ K:Nat,K=4200:=⟨_,rfl⟩;rw [<- F,Int.natAbs_mul,bF,Int.natAbs_natCast,Nat.one_mul];have w:N*2^(E+2148).toNat<=2^106*2^(E+2148).toNat:=Nat.mul_le_mul_right _ (by omega)
  by_cases a:N=0
  ·rw [a,Nat.zero_mul];exact Nat.zero_le _
  ·have f:E=ex+ey:=by
    rcases t with h | ⟨_,h⟩
    ·exact h
    ·exact absurd h a
   rw [<- Nat.pow_add] at w
   exact Nat.le_trans w (Nat.pow_le_pow_right (by decide) (by omega))
theorem EB (neg:Bool) (v:Value) (M:Nat) (e:Int) (N:Int) (k x y:Nat) (u t:Int) (w:World) (hd:DN w v M) (hv:DV 0 neg M e N k) (hk:oe k) (h:U64 u) (h':U64 t) (hu:Hid (u=(x:Int))) (ht:Hid (t=(y:Int))) (q:az u=true) (j:az t=true) :
  Calls Tryz.prog 67 #[AV 0 neg v e,.int .u64 u,.int .u64 t] w (cj w v M (A.St.merge ⟨0,N⟩ (A.bn x y)) (k+1)):=by
 have bb:=aa (bZ u · h);have ak:=aa (bZ t · h');rw [q] at bb
 rw [j] at ak
 have nb:∀ {z:Nat} {b:Int},b=(z:Int)->az b=true->af z:=fun {z b} e o=>by
  unfold az at o;rw [e,dR,decide_eq_true_eq] at o;unfold af;omega
 have O:=nb hu.out q;have K:=nb ht.out j;have I:x<18446744073709551616:=by have:=h.2;rw [hu.out] at this;omega
 have H:y<18446744073709551616:=by have:=h'.2;rw [ht.out] at this;omega
 have cc:=aa fun w=>eC x u w hu h O
 have cd:=aa fun w=>eC y t w ht h' K
 obtain⟨tg,P⟩:∃ tg,A.St.merge ⟨0,N⟩ (A.bn x y)=tg:=⟨_,rfl⟩;have HT:Hid (tg=⟨0,N+aA (x:Int)*aA (y:Int)*2^(aQ (x:Int)+aQ (y:Int)+2148).toNat⟩):=by
  show _=_
  rw [<- P];unfold A.bn;rw [<- hu.out,<- ht.out,q,j]
  show A.St.merge ⟨0,N⟩ (A.fF u t)=_
  unfold A.fF;rw [iz,if_pos rfl]
 rw [P];obtain⟨p,l,c,rfl⟩:=hd.shape;have HD:=aa fun V (hb:Below w.heap.size w V)=>hd.below hb
 have R:=aa hv;have H8:=aa (dL w 0 neg (.slice p l c) e);have HB:=aa (dh w 0 neg (.slice p l c) e);have HZ:=aa (iw w 0 neg (.slice p l c) e);have C:=aa (And.intro (And.intro O I) (And.intro K H));obtain⟨c0,c1,c2,c3,d0,d1,d2,d3,f0,f1,f2,f3⟩:=H8.out;have S0:Hid (Three (boxA2 w 0 neg (.slice p l c) e) w.heap.size neg (.slice p l c) e):=H8.out.three;clear h h' P hd hv O I K H q j nb
 go_enter Tryz.func67,Tryz.ntmps67
 go_wp2_with (first | (go_at_call_of 41 (Value.int IntKind.u64 u);refine (aG (bb.out _)).mono ?_;rintro x V ⟨rfl,rfl⟩) | (go_at_call_of 41 (Value.int IntKind.u64 t);refine (aG (ak.out _)).mono ?_;rintro x V ⟨rfl,rfl⟩))
 go_region_held3 (fun V=>V.cell? ⟨w.heap.size,1,none⟩=some (.bool neg)/\V.cell? ⟨w.heap.size,2,none⟩=some (.slice p l c)/\V.cell? ⟨w.heap.size,3,none⟩=some (.int .i64 e)) (first | exact S0.out | exact S3.out | exact S4.out | exact S5.out | exact S6.out | exact Ez S6.out | go_keep) (first | ((go_at_call_of 74 (Value.int IntKind.u64 u);refine (cc.out _).mono ?_;rintro r w3 ⟨nx,vx,X,ex,rfl,J,hX,G⟩;obtain⟨px,lx,cx,rfl⟩:=J.shape;have am:=aa (HB.out.drew.trans (G.mono (show w.heap.size<=(boxA2 w 0 neg (.slice p l c) e).heap.size by rw [HZ.out];omega)));have G8:=aa (Cells8.below (fT H8.out) G (show w.heap.size+1<(boxA2 w 0 neg (.slice p l c) e).heap.size by rw [HZ.out];omega));have bx:w.heap.size+2<=w3.heap.size:=(by have h9:=G.size;have h8:(boxA2 w 0 neg (.slice p l c) e).heap.size<=w3.heap.size:=h9;rw [HZ.out] at h8;exact h8);have bz:=aa J;have D:=aa hX;have S3:=aa G8.out.three;clear G J hX)) | ((go_at_call_of 74 (Value.int IntKind.u64 t);refine (cd.out _).mono ?_;rintro r w4 ⟨ny,vy,Y,ey,rfl,Q,hY,f⟩;obtain⟨py,ly,cy,rfl⟩:=Q.shape;have ad:=aa (am.out.trans (f.mono am.out.size));have I8:=aa (G8.out.below f (show w.heap.size+1<w3.heap.size by omega));have bi:w.heap.size+2<=w4.heap.size:=Nat.le_trans bx f.size;have bc:=aa (bz.out.below f);have ca:=aa Q;have B:=aa hY;have S4:=aa I8.out.three;clear f Q hY)) | ((go_at_call 100;refine (sK nx ny (.slice px lx cx) (.slice py ly cy) ex ey X Y w4 bc.out ca.out (by have:=dr D.out.lt;omega) (by have:=dr B.out.lt;omega) (by have:=D.out.lo;omega) (by have:=D.out.hi;omega) (by have:=B.out.lo;omega) (by have:=B.out.hi;omega)).mono ?_;rintro r w5 ⟨nt,vt,Tt,et,rfl,U,bs,al,ab,i⟩;obtain⟨pt,lt,ct,rfl⟩:=U.shape;have d:=aa (EA D.out B.out C.out.1.2 C.out.2.2 C.out.1.1 C.out.2.1 al ab);have S:=aa (ad.out.trans (i.mono ad.out.size));have J8:=aa (I8.out.below i (show w.heap.size+1<w4.heap.size by omega));have bo:w.heap.size+2<=w5.heap.size:=Nat.le_trans bi i.size;have br:=aa U;have S5:=aa J8.out.three;clear i U bs al ab)) | ((go_at_call 73;obtain⟨E,hE⟩:∃ E,iQ M e Tt et=E:=⟨_,rfl⟩;obtain⟨n,m,kk,a⟩:=Oa (nm:=neg) (nx:=nt) R.out.lo R.out.hi d.out.2.1 d.out.2.2.1 (R.out.nd hk).1 d.out.2.2.2.1 hE;refine (po neg nt (.slice p l c) (.slice pt lt ct) e et E M Tt n m w5 (HD.out _ S.out) br.out hE a.hn a.hm (by have:=a.hn1;omega) (by have:=a.hm1;omega) (by have:=R.out.nd hk;omega) (by have:=d.out.2.2.2.1;omega) a.had a.hbd).mono ?_;rintro r w6 ⟨g,v',N',E',rfl,T,Z,ba,ai,L⟩;obtain⟨p6,l6,c6,rfl⟩:=T.shape;have bv:Hid (DV 0 g N' E' (N+aA (x:Int)*aA (y:Int)*2^(aQ (x:Int)+aQ (y:Int)+2148).toNat) (k+1)):=(by have hT:=CR (s:=0) (kk:=k+1) (kk':=k+1) a ba ai rfl (by rw [R.out.val];exact It R.out.bd d.out.2.2.2.2) (Nat.le_refl _);rw [R.out.val,d.out.1] at hT;exact hT);have bh:=aa (S.out.trans (L.mono S.out.size));have F:=aa (J8.out.below L (show w.heap.size+1<w5.heap.size by omega));have bk:=aa T;have W:=aa (cW Z bo);have S6:=aa F.out.three;have k0:=F.out.d0;have k1:=F.out.d1;have k2:=F.out.d2;have k3:=F.out.d3;have l0:=F.out.f0;have l1:=F.out.f1;have l2:=F.out.f2;have l3:=F.out.f3;clear T Z ba ai L a hE)))
 go_wp2_with fail
 refine bodyPost_ret (v:=.agg #[.int .i64 0,.bool g,.slice p6 l6 c6,.int .i64 E']) (by simp [results,Tryz.results67,go_sem,k0,k1,k2,k3]) rfl ?_
 rw [HT.out];exact⟨g,_,N',E',rfl,lG bk.out W.out (by omega),Or.inr (cW W.out (by omega)),bv.out,bT bh.out (by omega)⟩
theorem Ob (s:Nat) (neg:Bool) (v:Value) (M:Nat) (e:Int) (N:Int) (k x y:Nat) (u t:Int) (w:World) (c:DN w v M) (f:DV s neg M e N k) (j:oe k) (h:U64 u) (g:U64 t) (d:Hid (u=(x:Int))) (b:Hid (t=(y:Int))) :
  Calls Tryz.prog 67 #[AV (s:Int) neg v e,.int .u64 u,.int .u64 t] w (cj w v M (A.St.merge ⟨s,N⟩ (A.bn x y)) (k+1)):=by
 cases a:(az u&&az t) with
 | false=>exact Ey s neg v M e N k x y u t w c f j h g d b a
 | true=>
  rw [Bool.and_eq_true] at a
  by_cases i:s=0
  ·subst i;exact EB neg v M e N k x y u t w c f j h g d b a.1 a.2
  ·exact AN s neg v M e N k x y u t w c f i h g d.out b.out a.1 a.2
theorem uW (N:Int):A.cO ⟨0,N⟩=valF N:=by unfold A.cO;rw [if_pos rfl]
theorem CS (N:Int):A.cO ⟨1,N⟩=9218868437227405312:=by unfold A.cO;dsimp only;rw [if_neg (by decide),if_pos rfl]
theorem CT (N:Int):A.cO ⟨2,N⟩=18442240474082181120:=by unfold A.cO;dsimp only;rw [if_neg (by decide),if_neg (by decide),if_pos rfl]
theorem CU (N:Int):A.cO ⟨3,N⟩=9221120237041090561:=by unfold A.cO;dsimp only;rw [if_neg (by decide),if_neg (by decide),if_neg (by decide)]
theorem EC {neg:Bool} {M k:Nat} {e N:Int} (i:DV 0 neg M e N k):bJ neg M e false=(valF N:Int):=by
 have a:=i.val;have m:=i.lo;unfold valF
 by_cases b:M=0
 ·rw [b,aT,Int.zero_mul] at a
  rw [b,<- a];unfold bJ aJ;rw [if_pos rfl,if_pos rfl];rfl
 ·obtain⟨q,l⟩:∃ q,(e+2148).toNat=q:=⟨_,rfl⟩;rw [l] at a
  obtain⟨g,j⟩:=ja (S:=sg neg M) q;have d:sg neg M≠0:=by
   intro c;have:=bF neg M;rw [c] at this;exact b this.symm
  rw [fw neg e b,<- a];unfold aJ;rw [if_neg (fun c=>d (j.1 c)),bg,bF]
  have h:=bf b q e;rw [show e - (q:Int)= -2148 by omega] at h
  rw [h];have f:=kC (neg:=neg) b;cases neg
  ·rw [if_neg (by decide),if_neg (fun c=>by have:=g.1 c;simp at f;omega)];omega
  ·rw [if_pos rfl,if_pos (g.2 (by simpa using f))];omega
theorem Oc (s:Nat) (neg:Bool) (v:Value) (M:Nat) (e:Int) (N:Int) (k:Nat) (w:World) (h:DN w v M) (f:DV s neg M e N k) (t:oe k) :
  Calls Tryz.prog 110 #[AV (s:Int) neg v e,.int .i64 1] w fun r j=>r=.returned (.int .u64 (A.cO ⟨s,N⟩:Int))/\Below w.heap.size w j:=by
 obtain⟨p,l,c,rfl⟩:=h.shape;obtain⟨b,a⟩:∃ b:Int,(A.cO ⟨s,N⟩:Int)=b:=⟨_,rfl⟩;rw [a];have u:=f.s3;have g:Hid (Below w.heap.size w (boxA w (s:Int) neg (.slice p l c) e)):=(Below.refl _ _).alloc (Nat.le_refl _) _;rcases (show s=0\/s=1\/s=2\/s=3 by omega) with rfl | rfl | rfl | rfl
 ·have q:=EC f;have d:(valF N:Int)=b:=by rw [<- a,uW]
  have m:Hid (Calls Tryz.prog 77 #[.agg #[.bool neg,.slice p l c,.int .i64 e]] (boxA w 0 neg (.slice p l c) e) fun r j=>r=.returned (.int .u64 b)/\Below (boxA w 0 neg (.slice p l c) e).heap.size (boxA w 0 neg (.slice p l c) e) j):=by
   rw [<- d,<- q];exact gv neg _ e M _ (h.below g.out) (by have:=f.nd t;omega) (by have:=f.lo;omega) (by have:=f.hi;omega)
  clear h f a q d
  go_enter Tryz.func110,Tryz.ntmps110
  go_wp2_with fail
  refine m.out.mono ?_
  rintro r y ⟨rfl,o⟩;have n:=aa (g.out.trans (o.mono g.out.size));clear o
  go_wp2_with fail
  go_ret
  exact⟨rfl,n.out⟩
 ·have d:(9218868437227405312:Int)=b:=by rw [<- a,CS];rfl
  have i:=aa d;clear h f a d
  go_enter Tryz.func110,Tryz.ntmps110
  go_wp2_with fail
  go_ret
  exact⟨bu i.out,g.out⟩
 ·have d:(18442240474082181120:Int)=b:=by rw [<- a,CT];rfl
  have i:=aa d;have x:=aa fun w=>fB 9218868437227405312 9218868437227405312 18442240474082181120 w rfl (by unfold U64;omega) rfl
  clear h f a d
  go_enter Tryz.func110,Tryz.ntmps110
  go_wp2_with fail
  refine (x.out _).mono ?_
  rintro r j ⟨rfl,rfl⟩
  go_wp2_with fail
  go_ret
  exact⟨bu i.out,g.out⟩
 ·have d:(9221120237041090561:Int)=b:=by rw [<- a,CU];rfl
  have i:=aa d;clear h f a d
  go_enter Tryz.func110,Tryz.ntmps110
  go_wp2_with fail
  go_ret
  exact⟨bu i.out,g.out⟩
theorem OJ (s:Nat) (neg:Bool) (v:Value) (M:Nat) (e:Int) (N:Int) (k:Nat) (w:World) (g:DN w v M) (j:DV s neg M e N k) (m:oe k) :
  Calls Tryz.prog 69 #[AV (s:Int) neg v e] w fun r n=>r=.returned (.int .u64 (A.cO ⟨s,N⟩:Int))/\Below w.heap.size w n:=by
 obtain⟨p,l,c,rfl⟩:=g.shape;have d:Hid (Below w.heap.size w (boxA w (s:Int) neg (.slice p l c) e)):=(Below.refl _ _).alloc (Nat.le_refl _) _;have h:=aa (Oc s neg (.slice p l c) M e N k _ (g.below d.out) j m);obtain⟨b,a⟩:∃ b:Int,(A.cO ⟨s,N⟩:Int)=b:=⟨_,rfl⟩;rw [a] at h ⊢
 clear g j a
 go_enter Tryz.func69,Tryz.ntmps69
 go_wp2_with fail
 refine h.out.mono ?_
 rintro r o ⟨rfl,i⟩;have f:=aa (d.out.trans (i.mono d.out.size));clear i
 go_wp2_with fail
 go_ret
 exact⟨rfl,f.out⟩
structure Held (w wr:World) (B:Nat) (a:A.St) (k:Nat):Prop where
 ex:∃ neg v M e,wr.heap[B]? =some (.cells #[.int .i64 (a.s:Int),.bool neg,v,.int .i64 e] 85 (0,0))/\DN wr v M/\From (B+1) v/\DV a.s neg M e a.N k
 bl:Below w.heap.size w wr
 lo:w.heap.size<=B
 lt:B<wr.heap.size
theorem IA (w:World):Held w (boxA w 0 false (.slice none 0 0) 0) w.heap.size ⟨0,0⟩ 0:=
 ⟨⟨false,.slice none 0 0,0,0,heap_alloc_new w _,Or.inl ⟨rfl,_,_,rfl⟩,gu _,DV.zero (by decide) 0⟩,(Below.refl _ _).alloc (Nat.le_refl _) _,Nat.le_refl _,by simp⟩
structure Held4 (wr:World) (B:Nat) (s:Int) (neg:Bool) (v:Value) (e:Int):Prop where
 c0:wr.cell? ⟨B,0,none⟩=some (.int .i64 s)
 c1:wr.cell? ⟨B,1,none⟩=some (.bool neg)
 c2:wr.cell? ⟨B,2,none⟩=some v
 c3:wr.cell? ⟨B,3,none⟩=some (.int .i64 e)
 f0:wr.frozen? ⟨B,0,none⟩=false
 f1:wr.frozen? ⟨B,1,none⟩=false
 f2:wr.frozen? ⟨B,2,none⟩=false
 f3:wr.frozen? ⟨B,3,none⟩=false
theorem dX {wr:World} {B:Nat} {s:Int} {neg:Bool} {v:Value} {e:Int} (a:wr.heap[B]? =some (.cells #[.int .i64 s,.bool neg,v,.int .i64 e] 85 (0,0))):Held4 wr B s neg v e:=by
 refine⟨?_,?_,?_,?_,?_,?_,?_,?_⟩
 ·simp [World.cell?,a]
 ·simp [World.cell?,a]
 ·simp [World.cell?,a]
 ·simp [World.cell?,a]
 ·simp [World.frozen?,a]
 ·simp [World.frozen?,a]
 ·simp [World.frozen?,a]
 ·simp [World.frozen?,a]
theorem mH {w:World} {B:Nat} {s b:Int} {neg a:Bool} {v d:Value} {e c:Int} (j:w.heap[B]? =some (.cells #[.int .i64 s,.bool neg,v,.int .i64 e] 85 (0,0))):(put4 w B b a d c).heap[B]? =some (.cells #[.int .i64 b,.bool a,d,.int .i64 c] 85 (0,0)):=by
 have h:=heap_setCell_same w B 0 _ _ (.int .i64 b) j;have g:=heap_setCell_same _ B 1 _ _ (.bool a) h;have i:=heap_setCell_same _ B 2 _ _ d g;have f:=heap_setCell_same _ B 3 _ _ (.int .i64 c) i;rw [f];rfl
theorem xE {w wr w1:World} {B k:Nat} {s:Int} {neg:Bool} {v:Value} {M:Nat} {e:Int} {a:A.St} {r:Ending} (x:wr.heap[B]? =some (.cells #[.int .i64 s,.bool neg,v,.int .i64 e] 85 (0,0))) (y:From (B+1) v) (n:Below w.heap.size w wr) (i:w.heap.size<=B) (f:B<wr.heap.size) (h:cj wr v M a k r w1) :
  ∃ b p l c m,r=.returned (AV (a.s:Int) b (.slice p l c) m)/\Held4 w1 B s neg v e/\Held w (put4 w1 B (a.s:Int) b (.slice p l c) m) B a k:=by
 obtain⟨b,C,z,m,rfl,u,j,q,d⟩:=h;obtain⟨p,l,c,rfl⟩:=u.shape;have g:w1.heap[B]? =some (.cells #[.int .i64 s,.bool neg,v,.int .i64 e] 85 (0,0)):=by rw [d.block B f];exact x
 have t:From (B+1) (.slice p l c):=by
  rcases j with⟨j,_⟩| j
  ·rw [j];exact y
  ·exact cW j f
 have o:Below w.heap.size w w1:=n.trans (d.mono n.size);refine⟨b,p,l,c,m,rfl,dX g,⟨b,_,z,m,mH g,lG u t (by omega),t,q⟩,bT o i,i,?_⟩
 have:=d.size;simp;omega
theorem IB (a:A.St):(⟨a.s,a.N⟩:A.St)=a:=rfl
theorem ID (q:Nat) (m:Nat) (e:q≠0) (f:m<=1):(2*q+m).log2=q.log2+1:=by
 have a:=Nat.log2_self_le e;have b:q<2^(q.log2+1):=Nat.lt_log2_self;have c:(2*q+m).log2<q.log2+1+1:=(Nat.log2_lt (by omega)).2 (by rw [Nat.pow_succ];omega)
 have d:q.log2+1<=(2*q+m).log2:=(Nat.le_log2 (by omega)).2 (by rw [Nat.pow_succ];omega)
 omega
theorem IE {q:Nat} (more:Bool):nearR (mant q more) (kc q)=nearR (2*q+more.toNat) (-2149):=by
 have o:more.toNat<=1:=by cases more<;>decide
 by_cases h:q.log2<61
 ·have p:q<2^61:=by
   by_cases d:q=0
   ·rw [d];decide
   ·exact (Nat.log2_lt d).1 h
  have s:=LS q more;have i:kc q< -1139:=by unfold kc;split<;>omega
  rw [iW (by omega) i,iW (by omega) (by decide)]
 ·have d:q≠0:=fun c=>by rw [c] at h;exact h (by decide)
  obtain⟨t,g⟩:∃ t,q.log2=t+61:=⟨q.log2 - 61,by omega⟩
  have m:mant q more=bK (2*q+more.toNat) (t+1) false:=by
   unfold mant bK;rw [if_neg d,g,show t+61+3=64+t by omega,Nat.pow_add 2 64 t,Nat.mul_comm q,Nat.mul_mod_mul_left,Nat.mul_div_mul_left _ _ (Nat.two_pow_pos 64),show (2:Nat)^(t+1)=2*2^t by rw [Nat.pow_succ,Nat.mul_comm]]
   have n:(2*q+more.toNat) / (2*2^t)=q / 2^t:=by
    rw [<- Nat.div_div_eq_div_mul]
    congr 1
    omega
   have l:(2*q+more.toNat) % (2*2^t)=2*(q % 2^t)+more.toNat:=by
    have e:=Nat.div_add_mod q (2^t);have j:q % 2^t<2^t:=Nat.mod_lt _ (Nat.two_pow_pos t);generalize q / 2^t=Q at *
    generalize q % 2^t=R at *
    generalize 2^t=T at *
    have f:2*q+more.toNat=2*R+more.toNat+2*T*Q:=by rw [<- e,Nat.mul_add,Nat.mul_assoc];omega
    rw [f,Nat.add_mul_mod_self_left,Nat.mod_eq_of_lt (by omega)]
   rw [n,l];have r:=Nat.two_pow_pos 64;have k:(2^64*(q % 2^t)=0/\more=false)↔(2*(q % 2^t)+more.toNat=0/\(false:Bool)=false):=by
    constructor
    ·rintro⟨a,b⟩;rcases Nat.mul_eq_zero.1 a with c | c
     ·omega
     ·rw [c,b];exact⟨rfl,rfl⟩
    ·rintro⟨a,_⟩;have c:q % 2^t=0:=by omega
     refine⟨by rw [c,Nat.mul_zero],?_⟩
     cases more
     ·rfl
     ·rw [c] at a;exact absurd a (by decide)
   simp only [k]
  have f:kc q=((t+1:Nat):Int)+ -2149:=by unfold kc;rw [if_neg d,g];omega
  rw [m,f,lC (by omega) (by rw [ID q _ d o,g];omega)]
theorem IF {q:Nat} {more:Bool} (h:q≠0\/more=true):mant q more≠0:=by
 unfold mant
 by_cases a:q=0
 ·rw [if_pos a];rcases h with h | h
  ·exact absurd a h
  ·rw [h];decide
 ·rw [if_neg a];have e:=Nat.two_pow_pos 64;have b:q*2^64≠0:=fun c=>by
   rcases Nat.mul_eq_zero.1 c with c | c<;>omega
  have d:q.log2+3<=(q*2^64).log2:=by rw [de a];omega
  exact (cT more d b).2
theorem mI (N:Int) (d:Nat):A.gG N d=if N=0 then 0 else wrd (decide (N<0)) (nearR (aP N.natAbs d 0) (-2149)):=by
 unfold A.gG;have f:aP N.natAbs d 0=2*(N.natAbs / d)+(decide (N.natAbs % d≠0)).toNat:=by
  unfold aP;rw [Nat.pow_zero,Nat.mul_one]
  by_cases a:N.natAbs % d=0<;>simp [a]
 rw [f,<- IE]
 by_cases b:N=0
 ·rw [if_pos b,b];have:(0:Int).natAbs=0:=rfl;rw [this,Nat.zero_div,Nat.zero_mod]
  rfl
 ·rw [if_neg b];have h:mant (N.natAbs / d) (decide (N.natAbs % d≠0))≠0:=by
   apply IF
   by_cases a:N.natAbs % d=0
   ·refine Or.inl (fun c=>?_)
    have:=Nat.div_add_mod N.natAbs d;rw [c,a,Nat.mul_zero] at this
    omega
   ·exact Or.inr (by simp [a])
  generalize mant (N.natAbs / d) (decide (N.natAbs % d≠0))=m at *
  generalize kc (N.natAbs / d)=g at *
  unfold aJ sgM wrd
  by_cases e:N<0
  ·simp only [e,decide_true,if_true];rw [if_neg (by omega),if_pos (by omega),Int.natAbs_neg,Int.natAbs_natCast]
  ·simp only [e,decide_false,Bool.false_eq_true,if_false];rw [if_neg (by omega),if_neg (by omega),Int.natAbs_natCast]
theorem pS (nx e:Bool) (b g:Value) (ex ey:Int) (w:World) (i:DN w b 0) :
  Calls Tryz.prog 61 #[.agg #[.bool nx,b,.int .i64 ex],.agg #[.bool e,g,.int .i64 ey]] w fun x d=>x=.returned (.int .u64 0)/\Below w.heap.size w d:=by
 have a:Hid (Below w.heap.size w (boxN (boxN w nx b ex) e g ey)):=(aE w nx b ex).trans ((aE (boxN w nx b ex) e g ey).mono (by simp))
 have h:=aa fun d (j:Below w.heap.size w d)=>aZ nx b ex 0 true d (i.below j) rfl
 clear i
 go_enter Tryz.func61,Tryz.ntmps61
 go_wp2_with fail
 refine (h.out _ a.out).mono ?_
 rintro x k ⟨rfl,c⟩;have f:=aa (a.out.trans (c.mono a.out.size));clear c
 go_wp2_with fail
 go_ret
 exact⟨rfl,f.out⟩
theorem kJ (w:World) (s:Int) (neg:Bool) (v:Value) (e:Int):Three (boxA w s neg v e) w.heap.size neg v e:=⟨by simp,by simp,by simp⟩
theorem nG {w1 d:World} {B b:Nat} {neg:Bool} {v:Value} {e:Int} (h:Three w1 B neg v e) (c:Below b w1 d) (a:B<b):Three d B neg v e:=
 ⟨(c.cell (p:=⟨B,1,none⟩) a).trans h.1,(c.cell (p:=⟨B,2,none⟩) a).trans h.2.1,(c.cell (p:=⟨B,3,none⟩) a).trans h.2.2⟩
theorem EF {neg:Bool} {M k n:Nat} {e N:Int} (r:DV 0 neg M e N k) (b:M≠0) (hn:0<n) {j:Nat} (y:max 0 (70 - (bl M:Int)+(bl n:Int))=(j:Int)) :
  bJ neg (M*2^j / n) (e - j - 0) (decide (0<nd (M*2^j % n)))=(A.gG N n:Int):=by
 have z:=eA b;have x:=eA (show n≠0 by omega)
 have p:=jd b (show n≠0 by omega) (k:=j) (by omega)
 rw [kG _ _ _ p.1,mI];have a:=r.val;have w:=r.lo;obtain⟨q,t⟩:∃ q:Nat,(e+2148).toNat=q:=⟨_,rfl⟩;rw [t] at a
 obtain⟨m,s⟩:=ja (S:=sg neg M) q;have f:sg neg M≠0:=by
  intro c;have:=bF neg M;rw [c] at this;exact b this.symm
 have g:N≠0:=fun c=>f (s.1 (a.trans c))
 have d:N.natAbs=M*2^q:=by rw [<- a,bg,bF]
 have o:=kC (neg:=neg) b;have i:decide (N<0)=neg:=by
  cases neg
  ·exact decide_eq_false (fun c=>by rw [<- a] at c;have:=m.1 c;simp at o;omega)
  ·exact decide_eq_true (by rw [<- a];exact m.2 (by simpa using o))
 have v:2*(M*2^j / n)+(if decide (0<nd (M*2^j % n))=true then 1 else 0)=aP M n j:=by
  unfold aP
  congr 1
  by_cases h:M*2^j % n=0
  ·rw [h];rfl
  ·have:=dm h;rw [if_neg h,if_pos (decide_eq_true (show 0<nd (M*2^j % n) from this))]
 rw [if_neg g,i,d,v,IC,Nat.add_zero];have u:nearR (aP M n j) (e - (j:Int) - 0 - 1)=nearR (aP M n q) (-2149):=by
  rw [show e - (j:Int) - 0 - 1=(e - 1) - (j:Int) by omega,show (-2149:Int)=(e - 1) - (q:Int) by omega]
  by_cases l:j<=q
  ·exact jc hn l p.2
  ·exact (uX b hn (by omega) (by omega)).symm
 rw [u];unfold gB wrd;cases neg<;>simp
theorem AO (neg:Bool) (v:Value) (M:Nat) (e:Int) (N:Int) (k n:Nat) (w:World) (t:DN w v M) (q:DV 0 neg M e N k) (E:oe k) (hn:2<=n) (u:n<=9223372036854775807) :
  Calls Tryz.prog 110 #[AV 0 neg v e,.int .i64 (n:Int)] w fun r g=>r=.returned (.int .u64 (A.gG N n:Int))/\Below w.heap.size w g:=by
 obtain⟨p,l,c,rfl⟩:=t.shape;obtain⟨i,a⟩:∃ i:Int,(A.gG N n:Int)=i:=⟨_,rfl⟩;rw [a];have F:Hid (Below w.heap.size w (boxA w 0 neg (.slice p l c) e)):=(Below.refl _ _).alloc (Nat.le_refl _) _;have C:=aa fun b=>jI (n:Int) b (by omega) (by omega)
 unfold dU at C
 rw [show decide ((n:Int)<0)=false from decide_eq_false (by omega),Int.natAbs_natCast] at C
 have J:Hid (∀ b o,Below w.heap.size w b->DN b o n->Calls Tryz.prog 61 #[.agg #[.bool neg,.slice p l c,.int .i64 e],.agg #[.bool false,o,.int .i64 0]] b fun x g=>x=.returned (.int .u64 i)/\Below b.heap.size b g):=fun b o H K=>by
  rw [<- a]
  by_cases s:M=0
  ·have O:N=0:=by have:=q.val;rw [s,aT,Int.zero_mul] at this;exact this.symm
   have:=pS neg false (.slice p l c) o e 0 b (by have:=t.below H;rw [s] at this;exact this)
   rw [mI,if_pos O];exact this
  ·obtain⟨j,D⟩:∃ j:Nat,max 0 (70 - (bl M:Int)+(bl n:Int))=(j:Int):=⟨(max 0 (70 - (bl M:Int)+(bl n:Int))).toNat,by omega⟩
   exact je neg false _ (.slice p l c) o e 0 _ M n j _ b (t.below H) K s (by omega) (by have:=(q.nd E).2;omega) (by have:=bL (N:=n) (k:=2) (by omega);omega) (by have:=q.lo;omega) (by have:=q.hi;omega) (by omega) (by omega) D rfl rfl (EF q s (by omega) D)
 have L:((n:Int)==1)=false:=beq_false_of_ne (by omega)
 clear t q a E hn u
 go_enter Tryz.func110,Tryz.ntmps110
 have G:=aa (kJ w 0 neg (.slice p l c) e)
 go_wp2_with fail
 go_region_held3 (fun g=>g.cell? ⟨w.heap.size,1,none⟩=some (.bool neg)/\g.cell? ⟨w.heap.size,2,none⟩=some (.slice p l c)/\g.cell? ⟨w.heap.size,3,none⟩=some (.int .i64 e)) (first | exact G.out | exact I.out | exact P.out | go_keep) (first | ((go_at_call 62;refine (C.out _).mono ?_;rintro r Q ⟨o,rfl,h,d⟩;obtain⟨S,R,U,rfl⟩:=h.shape;have m:=aa (F.out.drew.trans (d.mono F.out.size));have I:=aa (nG (w1:=(boxA w 0 neg (.slice p l c) e).drew) G.out d (show w.heap.size<(boxA w 0 neg (.slice p l c) e).heap.size by simp));have B:Hid (w.heap.size<Q.heap.size):=(Nat.lt_of_lt_of_le (show w.heap.size<(boxA w 0 neg (.slice p l c) e).heap.size by simp) d.size);have y:=aa h;clear d h)) | ((go_at_call 61;refine (J.out _ _ m.out y.out).mono ?_;rintro r T ⟨rfl,f⟩;have z:=aa (m.out.trans (f.mono m.out.size));have P:=aa (nG I.out f B.out);clear f)))
 all_goals
  go_wp2_with fail
  go_ret
  exact⟨rfl,z.out⟩
def aR (a:A.St) (n:Nat):Nat:=if a.s=0 then A.gG a.N n else A.cO a
theorem AP (s:Nat) (neg:Bool) (v:Value) (M:Nat) (e:Int) (N n:Int) (w:World) (g:DN w v M) (j:s=1\/s=2\/s=3) :
  Calls Tryz.prog 110 #[AV (s:Int) neg v e,.int .i64 n] w fun r i=>r=.returned (.int .u64 (A.cO ⟨s,N⟩:Int))/\Below w.heap.size w i:=by
 obtain⟨p,l,c,rfl⟩:=g.shape;obtain⟨b,a⟩:∃ b:Int,(A.cO ⟨s,N⟩:Int)=b:=⟨_,rfl⟩;rw [a];have h:Hid (Below w.heap.size w (boxA w (s:Int) neg (.slice p l c) e)):=(Below.refl _ _).alloc (Nat.le_refl _) _;rcases j with rfl | rfl | rfl
 ·have d:(9218868437227405312:Int)=b:=by rw [<- a,CS];rfl
  have f:=aa d;clear g a d
  go_enter Tryz.func110,Tryz.ntmps110
  go_wp2_with fail
  go_ret
  exact⟨bu f.out,h.out⟩
 ·have d:(18442240474082181120:Int)=b:=by rw [<- a,CT];rfl
  have f:=aa d;have k:=aa fun w=>fB 9218868437227405312 9218868437227405312 18442240474082181120 w rfl (by unfold U64;omega) rfl
  clear g a d
  go_enter Tryz.func110,Tryz.ntmps110
  go_wp2_with fail
  refine (k.out _).mono ?_
  rintro r i ⟨rfl,rfl⟩
  go_wp2_with fail
  go_ret
  exact⟨bu f.out,h.out⟩
 ·have d:(9221120237041090561:Int)=b:=by rw [<- a,CU];rfl
  have f:=aa d;clear g a d
  go_enter Tryz.func110,Tryz.ntmps110
  go_wp2_with fail
  go_ret
  exact⟨bu f.out,h.out⟩
theorem OK (s:Nat) (neg:Bool) (v:Value) (M:Nat) (e:Int) (N:Int) (k n:Nat) (w:World) (c:DN w v M) (d:DV s neg M e N k) (f:oe k) (hn:1<=n) (b:n<=9223372036854775807) :
  Calls Tryz.prog 110 #[AV (s:Int) neg v e,.int .i64 (n:Int)] w fun r i=>r=.returned (.int .u64 (aR ⟨s,N⟩ n:Int))/\Below w.heap.size w i:=by
 have g:=d.s3;unfold aR;dsimp only
 by_cases a:s=0
 ·rw [if_pos a];subst a
  by_cases h:n=1
  ·subst h;rw [A.Ev];have:=Oc 0 neg v M e N k w c d f;rw [uW] at this
   exact this
  ·exact AO neg v M e N k n w c d f (by omega) b
 ·rw [if_neg a];exact AP s neg v M e N (n:Int) w c (by omega)
end Go.Proofs.YtfdddijdjpijbaaGreat
