/-  -/
import Derived.Test.YtfdddijdjpijbaaGreatHax
set_option maxHeartbeats 1600000
set_option maxRecDepth 10000
namespace Go.Proofs.YtfdddijdjpijbaaGreat
open Go.RowKit
theorem vn {c:Nat} (h:c<9223372036854775808):c^^^9223372036854775808=9223372036854775808+c:=by
 rw [show (9223372036854775808:Nat)=2^63 from rfl] at *
 apply Nat.eq_of_testBit_eq;intro i;rw [Nat.testBit_xor,Nat.testBit_two_pow]
 by_cases f:i=63
 ·subst f;rw [Nat.testBit_two_pow_add_eq];simp
 ·by_cases d:i<63
  ·have e:decide (63=i)=false:=by rw [decide_eq_false_iff_not];omega
   rw [Nat.testBit_two_pow_add_gt d,e,Bool.xor_false]
  ·have b:c.testBit i=false:=Nat.testBit_lt_two_pow (Nat.lt_of_lt_of_le h (Nat.pow_le_pow_right (by decide) (by omega)))
   have a:(2^63+c).testBit i=false:=Nat.testBit_lt_two_pow (Nat.lt_of_lt_of_le (show 2^63+c<2^64 by omega) (Nat.pow_le_pow_right (by decide) (by omega)))
   have e:decide (63=i)=false:=by rw [decide_eq_false_iff_not];omega
   rw [b,a,e];rfl
def flipN (x:Nat):Nat:=if x<9223372036854775808 then 9223372036854775808+x else x - 9223372036854775808
theorem tr {b:Nat} (h:b<18446744073709551616):b^^^9223372036854775808=flipN b:=by
 unfold flipN
 by_cases a:b<9223372036854775808
 ·rw [if_pos a,vn a]
 ·rw [if_neg a];obtain⟨c,rfl⟩:∃ c,b=9223372036854775808+c:=⟨b - 9223372036854775808,by omega⟩
  rw [<- vn (c:=c) (by omega),Nat.xor_assoc,Nat.xor_self,Nat.xor_zero]
  have:=vn (c:=c) (by omega)
  omega
theorem bM {x:Nat} (h:x<18446744073709551616):flipN x<18446744073709551616/\flipN x % 9223372036854775808=x % 9223372036854775808/\(flipN x / 9223372036854775808 % 2==1)=!(x / 9223372036854775808 % 2==1):=by
 unfold flipN
 by_cases a:x<9223372036854775808
 ·rw [if_pos a];refine⟨by omega,by omega,?_⟩
  rw [show (9223372036854775808+x) / 9223372036854775808=1 by omega,show x / 9223372036854775808=0 by omega];rfl
 ·rw [if_neg a];refine⟨by omega,by omega,?_⟩
  rw [show (x - 9223372036854775808) / 9223372036854775808=0 by omega,show x / 9223372036854775808=1 by omega];rfl
theorem xC {x y:Nat} (h:y<18446744073709551616) (hn:ah (y:Int)=false):floatBits .add .f64 x (flipN y)=floatBits .sub .f64 x y:=by
 obtain⟨_,a,d⟩:=bM h;have f:=fj hn;have e:Ieee.double.read (flipN y)=(Ieee.double.read y).opposite:=by
  by_cases c:y % 9223372036854775808<9218868437227405312
  ·rw [ax (b:=flipN y) (by rw [a];exact c),ax c,a,d];rfl
  ·rw [aS (b:=flipN y) (by rw [a];omega),aS (b:=y) (by omega),d];rfl
 show ((Ieee.double.read x).sum (Ieee.double.read (flipN y))).map Ieee.double.write=((Ieee.double.read x).sum (Ieee.double.read y).opposite).map Ieee.double.write
 rw [e]
theorem dQ (y:Nat) (v z:Int) (w:World) (b:Hid (v=(y:Int))) (h:U64 v) (c:Hid (z=(flipN y:Int))) :
  Calls Tryz.prog 34 #[.int .u64 v] w fun e d=>e=.returned (.int .u64 z)/\w=d:=by
 have f:bits .xor .u64 v 9223372036854775808=z:=by
  have a:y<18446744073709551616:=by have:=h.2;rw [b.out] at this;omega
  have:=bits_xor_u64_nat y 9223372036854775808 a (by decide)
  rw [show ((9223372036854775808:Nat):Int)=9223372036854775808 from rfl,tr a] at this
  rw [b.out,c.out];exact this
 go_enter Tryz.func34,Tryz.ntmps34
 go_wp2
 go_ret
 exact⟨rfl,rfl⟩
theorem dR (x y:Nat) (u v:Int) (w:World) (o:Hid (u=(x:Int))) (k:Hid (v=(y:Int))) (h:U64 u) (g:U64 v) :
  Calls Tryz.prog 35 #[.int .u64 u,.int .u64 v] w fun e f=>e=.returned (.int .u64 (cn (floatBits .sub .f64 x y):Int))/\Below w.heap.size w f:=by
 have c:y<18446744073709551616:=by have:=g.2;rw [k.out] at this;omega
 obtain⟨b,a⟩:∃ b:Int,(cn (floatBits .sub .f64 x y):Int)=b:=⟨_,rfl⟩;rw [a];have i:=hideS (aj v · g);cases d:ah v with
 | true=>
  rw [d] at i
  have p:Hid ((9221120237041090561:Int)=b):=by show _=_;rw [<- a,fu (by rw [<- k.out];exact d)];rfl
  clear h g d a
  go_enter Tryz.func35,Tryz.ntmps35
  go_wp2_with fail
  refine (turned (i.out _)).mono ?_
  rintro e f ⟨rfl,rfl⟩
  go_wp2_with fail
  go_ret
  exact⟨bA p.out,Below.refl _ _⟩
 | false=>
  rw [d] at i
  obtain⟨z,j⟩:∃ z:Int,z=(flipN y:Int):=⟨_,rfl⟩;have q:=hideS fun w=>dQ y v z w k g j
  have m:Hid (∀ w,Calls Tryz.prog 50 #[.int .u64 u,.int .u64 z] w fun e f=>e=.returned (.int .u64 b)/\Below w.heap.size w f):=fun w=>by
   have:=fM x (flipN y) u z w o j h (by rw [j];exact af (bM c).1)
   rw [xC c (by rw [<- k.out];exact d),a] at this;exact this
  clear h g d a j
  go_enter Tryz.func35,Tryz.ntmps35
  go_wp2_with fail
  refine (turned (i.out _)).mono ?_
  rintro e f ⟨rfl,rfl⟩
  go_wp2_with fail
  refine (q.out _).mono ?_
  rintro e f ⟨rfl,rfl⟩
  go_wp2_with fail
  refine (m.out _).mono ?_
  rintro e r ⟨rfl,l⟩;have n:=hideS l;clear l
  go_wp2_with fail
  go_ret
  exact⟨rfl,n.out⟩
theorem IE (n:Int):bN (decide (n<0)) n.natAbs 0 false=(fi n:Int):=by
 unfold fi aI
 by_cases b:n=0
 ·subst b;rw [if_pos rfl];rfl
 ·rw [if_neg b,fJ _ _ (by omega)]
  by_cases a:n<0
  ·rw [if_pos a,decide_eq_true a];simp only [if_true];omega
  ·rw [if_neg a,decide_eq_false a];simp
theorem cY (n:Int) (w:World) (z: -9223372036854775808<=n) (u:n<=9223372036854775807) :
  Calls Tryz.prog 101 #[.int .i64 n] w fun e m=>e=.returned (.int .u64 (fi n:Int))/\Below w.heap.size w m:=by
 obtain⟨i,a⟩:∃ i:Int,(fi n:Int)=i:=⟨_,rfl⟩;rw [a];rw [<- IE] at a
 obtain⟨o,b⟩:∃ o,decide (n<0)=o:=⟨_,rfl⟩;have t:Hid (∀ w,Calls Tryz.prog 62 #[.int .i64 n] w fun x m=>∃ v,x=.returned (.agg #[.bool o,v,.int .i64 0])/\DN m v n.natAbs/\Below w.heap.size w m):=fun w=>by rw [<- b];exact jR n w z u
 rw [b] at a
 have g:=hideS a;have r:nd n.natAbs<=1000000:=Nat.le_trans (bP (k:=2) (by omega)) (by omega)
 clear b a
 go_enter Tryz.func101,Tryz.ntmps101
 go_wp2_with fail
 refine (t.out _).mono ?_
 rintro x y ⟨A,rfl,d,f⟩;obtain⟨p,l,c,rfl⟩:=d.shape;have s:=hideS f;have h:=hideS (gJ o _ 0 n.natAbs y d r (by omega) (by omega))
 rw [g.out] at h
 clear d f
 go_wp2_with fail
 refine h.out.mono ?_
 rintro x B ⟨rfl,j⟩;have q:=hideS (s.out.trans (j.mono s.out.size));clear j
 go_wp2_with fail
 go_ret
 exact⟨rfl,q.out⟩
theorem gP (u v:Int) (b:Bool) (w:World) (h:U64 u) (j:U64 v) (hn:ah u=false) (d:ah v=false) (k:decide (ae u<ae v)=b) :
  Calls Tryz.prog 60 #[.int .u64 u,.int .u64 v] w fun e f=>e=.returned (.bool b)/\w=f:=by
 have i:=hideS fun w=>turned (gc u w h)
 have g:=hideS fun w=>turned (gc v w j)
 rw [hn] at i
 rw [d] at g
 generalize ae u=a at *
 generalize ae v=c at *
 clear hn d h j
 go_enter Tryz.func60,Tryz.ntmps60
 go_wp2_with fail
 refine (i.out _).mono ?_
 rintro e f ⟨rfl,rfl⟩
 go_wp2_with fail
 refine (g.out _).mono ?_
 rintro e f ⟨rfl,rfl⟩
 go_wp2_with fail
 go_ret
 exact⟨rfl,rfl⟩
theorem lE {S k F E:Int} (e:0<E) (h:k*E<=S) (g:S<(k+1)*E) (f:F*E<=S) (d:S<(F+1)*E):k=F:=by
 have a:k<F+1:=by
  by_cases c:k<F+1
  ·exact c
  ·have:=Int.mul_le_mul_of_nonneg_right (show F+1<=k by omega) (show 0<=E by omega);omega
 have b:F<k+1:=by
  by_cases c:F<k+1
  ·exact c
  ·have:=Int.mul_le_mul_of_nonneg_right (show k+1<=F by omega) (show 0<=E by omega);omega
 omega
def vp (neg:Bool) (q:Nat) (a:Bool):Int:=if neg then (if a then -(q:Int) - 1 else -(q:Int)) else (q:Int)
theorem vu {neg:Bool} {N P:Nat} (b:0<P):vp neg (N / P) (decide (N % P≠0))*(P:Int)<=sg neg N/\sg neg N<(vp neg (N / P) (decide (N % P≠0))+1)*(P:Int):=by
 have e:=Nat.div_add_mod N P;have d:N % P<P:=Nat.mod_lt _ b;have c:((P*(N / P):Nat):Int)=(N / P:Nat)*(P:Int):=by rw [Int.natCast_mul,Int.mul_comm]
 generalize N / P=q at *
 generalize N % P=r at *
 generalize P*q=t at *
 unfold vp sg;cases neg
 ·simp only [Bool.false_eq_true,if_false];rw [Int.add_mul,Int.one_mul];omega
 ·simp only [if_true]
  by_cases a:r=0
  ·rw [show decide (r≠0)=false by simpa using a]
   simp only [Bool.false_eq_true,if_false];rw [Int.add_mul,Int.one_mul,Int.neg_mul];omega
  ·rw [show decide (r≠0)=true by simpa using a]
   simp only [if_true];rw [Int.add_mul,Int.one_mul,Int.sub_mul,Int.one_mul,Int.neg_mul];omega
theorem xD (t:Nat) (v k:Int) (K:Nat) (w:World) (hv:Hid (v=(t:Int))) (h:U64 v) (ht:ag t) (hK:K=1074) (G:k*((2^K:Nat):Int)<=vI t) (z:vI t<(k+1)*((2^K:Nat):Int)) (k1: -2000<=k) (k2:k<=2000) :
  Calls Tryz.prog 102 #[.int .u64 v] w fun e T=>e=.returned (.int .i64 k)/\Below w.heap.size w T:=by
 have HO:=hideS fun w=>eL t v w hv h ht
 have HF:Hid (∀ neg N e,OfR t neg N e->(N=0->k=0)/\(N≠0->∃ P:Nat,e= -(P:Int)/\1<=P/\P<=1074/\k=vp neg (N / 2^P) (decide (N % 2^P≠0)))):=fun neg N e M=>by
  have hp:(0:Int)<((2^K:Nat):Int):=by have:=Nat.two_pow_pos K;omega
  have f:vI t=sg neg N*((2^(e+1074).toNat:Nat):Int):=by
   rw [xv,<- M.val,iA]
   by_cases g:N=0
   ·rw [g,aT,aT]
   ·rw [M.sgn g]
  constructor
  ·intro g;rw [g,aT,Int.zero_mul] at f
   rw [f] at G z
   exact lE hp G z (by rw [Int.zero_mul];exact Int.le_refl _) (by rw [Int.zero_add,Int.one_mul];exact hp)
  ·intro g;have bs:=M.lo;have ba:e<0:=by
    obtain⟨m1,m2⟩:=M.mag g
    by_cases c:e<0
    ·exact c
    ·exfalso
     have al:1074<=pl (t % 9223372036854775808):=by omega
     have Y:4503599627370496<=N:=by rw [m1];exact Da (by unfold pl at al;omega)
     have hb:(vI t).natAbs=N*2^(e+1074).toNat:=by rw [f,Int.natAbs_mul,bH,Int.natAbs_natCast]
     have U:2^K<=2^(e+1074).toNat:=Nat.pow_le_pow_right (by decide) (by omega)
     have h5:4503599627370496*2^K<=N*2^(e+1074).toNat:=Nat.mul_le_mul Y U;have h6:=Int.mul_le_mul_of_nonneg_right k1 (show 0<=((2^K:Nat):Int) by omega)
     have h7:=Int.mul_le_mul_of_nonneg_right (show k+1<=2001 by omega) (show 0<=((2^K:Nat):Int) by omega)
     generalize N*2^(e+1074).toNat=a at *
     generalize 2^K=b at *
     generalize (k+1)*(b:Int)=c1 at *
     generalize k*(b:Int)=c2 at *
     omega
   refine⟨(-e).toNat,by omega,by omega,by omega,?_⟩
   have V:(2^K:Nat)=2^(-e).toNat*2^(e+1074).toNat:=by rw [<- Nat.pow_add];congr 1;omega
   have hq:(0:Int)<((2^(e+1074).toNat:Nat):Int):=by have:=Nat.two_pow_pos (e+1074).toNat;omega
   have R:0<2^(-e).toNat:=Nat.two_pow_pos _;rw [V,Int.natCast_mul,<- Int.mul_assoc,f] at G z
   obtain⟨f1,f2⟩:=vu (neg:=neg) (N:=N) R;exact lE (by omega) (Int.le_of_mul_le_mul_right G hq) (Int.lt_of_mul_lt_mul_right z (by omega)) f1 f2
 clear h ht G z
 go_enter Tryz.func102,Tryz.ntmps102
 go_wp2_with fail
 refine (HO.out _).mono ?_
 rintro r O ⟨neg,vx,N,e,rfl,n,hX,o⟩;obtain⟨p,l,c,rfl⟩:=n.shape;obtain⟨W,S⟩:=HF.out neg N e hX;have m:=hideS (aD O neg (.slice p l c) e);have u:=hideS (n.below m.out);have i:=hideS (o.trans (m.out.mono o.size));have F:=hideS hX.lt;clear hX n o HO HF
 go_wp2_with fail
 by_cases g:N=0
 ·have C:=W g;clear W S;refine (aY _ _ _ N true _ u.out (decide_eq_true g)).mono ?_
  rintro r w2 ⟨rfl,d⟩;have j:=hideS (i.out.trans (d.mono i.out.size));have HK:=hideS C;clear d C g
  go_wp2_with fail
  go_ret
  exact⟨bA HK.out.symm,j.out⟩
 ·obtain⟨P,R,am,ab,C⟩:=S g;clear W S;have Z:N / 2^P<9007199254740992:=Nat.lt_of_le_of_lt (Nat.div_le_self _ _) F.out;refine (aY _ _ _ N false _ u.out (decide_eq_false g)).mono ?_
  rintro r w2 ⟨rfl,d⟩;obtain⟨c0,c1,c2⟩:=jQ d;have X:O.heap.size<w2.heap.size:=by have:=d.size;simp at this;omega
  have j:=hideS (i.out.trans (d.mono i.out.size));have he:e<0:=by omega
  have bh: -1074<=e:=by omega
  have E:Hid (-e=(P:Int)):=by show _=_;omega
  have H:=hideS (ik (.slice p l c) N P (-e) w2 (u.out.below d) (by have:=dw F.out;omega) E)
  have h3:=ii (K:=N / 2^P) (by omega)
  have b0:=bB (N / 2^P) 0;have b1:dgt (N / 2^P) 1<=2097152:=by omega
  obtain⟨x,A⟩:∃ x:Int,(dgt (N / 2^P) 0:Int)=x:=⟨_,rfl⟩;obtain⟨y,L⟩:∃ y:Int,(dgt (N / 2^P) 1:Int)=y:=⟨_,rfl⟩;obtain⟨Q,hQ⟩:∃ Q:Int,((N / 2^P:Nat):Int)=Q:=⟨_,rfl⟩;have bb:x+y*4294967296=Q:=by omega
  have d0:0<=x/\x<4294967296:=by omega
  have d1:0<=y/\y<=2097152:=by omega
  have ai:0<=Q/\Q<9007199254740992:=by omega
  have HK:Hid (k=if neg then (if bT N P then -Q - 1 else -Q) else Q):=by
   show _=_
   rw [<- hQ];exact C
  have I:=hideS A;have B:=hideS L;clear d C g R am ab h3 b0 b1 A L hQ Z E;obtain⟨bv,bc⟩:=d0;obtain⟨bi,bk⟩:=d1;obtain⟨bo,br⟩:=ai
  go_wp2_with fail
  refine H.out.mono ?_
  rintro r w3 ⟨v3,rfl,J,s⟩;have ad:=hideS (j.out.trans (s.mono j.out.size));have e0:w3.cell? ⟨O.heap.size,0,none⟩=some (.bool neg):=(s.cell (p:=⟨O.heap.size,0,none⟩) X).trans c0;have q:=hideS J;clear s J c0 c1 c2 H;generalize bT N P=D at HK ⊢
  go_wp2_with fail
  refine (turned (fH v3 (N / 2^P) 0 0 x _ q.out rfl I)).mono ?_
  rintro r T ⟨rfl,rfl⟩
  go_wp2_with fail
  refine (turned (fH v3 (N / 2^P) 1 1 y _ q.out rfl B)).mono ?_
  rintro r T ⟨rfl,rfl⟩;clear q I B;cases neg<;>cases D
  all_goals
   go_wp2_with fail
   go_ret
   exact⟨bA HK.out.symm,ad.out⟩
end Go.Proofs.YtfdddijdjpijbaaGreat
namespace Go.Proofs.YtfdddijdjpijbaaGreat
theorem lF {M s:Nat} {p:Int} (c:M≠0) (h:s+54<=M.log2):nearR (bO M s false) (s+p)=nearR M p:=by
 obtain⟨a,_⟩:=cW false (show s<=M.log2 by omega) c
 have k:ak (bO M s false) (s+p)=ak M p:=by
  unfold ak;rw [a];congr 1;omega
 have i:(s:Int)+p+2<=ak M p:=by unfold ak;omega
 unfold nearR;rw [k];obtain⟨d,l⟩:∃ d:Nat,ak M p=s+p+d:=⟨(ak M p - (s+p)).toNat,by omega⟩
 have j:((s:Int)+p - ak M p).toNat=0:=by omega
 have g:(p - ak M p).toNat=0:=by omega
 have f:(ak M p - (s+p)).toNat=d:=by omega
 have e:(ak M p - p).toNat=d+s:=by omega
 rw [j,g,f,e,Nat.pow_zero,Nat.mul_one,Nat.mul_one];have b:bO M s false=(if M % 2^s=0 then M / 2^s else (if M / 2^s % 2=1 then M / 2^s else M / 2^s+1)):=by unfold bO;simp only [and_true]
 rw [b,kF (by omega)]
def aN (X Y k:Nat):Nat:=2*(X*2^k / Y)+(if X*2^k % Y=0 then 0 else 1)
theorem IF {q e T:Nat} {t:Nat} (d:T=2^t) (g:e<2*T):bO (2*q*T+e) t false=2*q+(if e=0 then 0 else 1):=by
 have b:0<T:=by rw [d];exact Nat.two_pow_pos t
 unfold bO;rw [<- d];have k:(2*q*T+e) / T=2*q+e / T:=by rw [Nat.add_comm,Nat.add_mul_div_right _ _ b,Nat.add_comm]
 have j:(2*q*T+e) % T=e % T:=by rw [Nat.add_comm,Nat.add_mul_mod_self_right]
 rw [k,j]
 by_cases a:e=0
 ·rw [a,Nat.zero_mod,Nat.zero_div,if_pos ⟨rfl,rfl⟩,if_pos rfl]
 ·rw [if_neg a]
  by_cases f:e<T
  ·rw [Nat.mod_eq_of_lt f,Nat.div_eq_of_lt f,if_neg (fun h=>a h.1),if_neg (by omega)]
  ·have i:e / T=1:=by
    have:=Nat.div_lt_iff_lt_mul b (x:=e) (y:=2);have c:e / T<2:=this.2 g;have l:1<=e / T:=(Nat.one_le_div_iff b).2 (by omega)
    omega
   rw [i]
   by_cases c:e % T=0/\(false:Bool)=false
   ·rw [if_pos c]
   ·rw [if_neg c,if_pos (by omega)]
theorem tu {X Y:Nat} (k t:Nat) (b:0<Y):bO (aN X Y (k+t)) t false=aN X Y k:=by
 obtain⟨T,e⟩:∃ T,T=2^t:=⟨_,rfl⟩;have m:0<T:=by rw [e];exact Nat.two_pow_pos t
 unfold aN;rw [Nat.pow_add,<- Nat.mul_assoc,<- e];generalize X*2^k=A;have y:=Nat.div_add_mod A Y;have v:A % Y<Y:=Nat.mod_lt _ b;generalize A / Y=q at *
 generalize A % Y=r at *
 have a:A*T=r*T+Y*(q*T):=by rw [<- y,Nat.add_mul,Nat.mul_assoc,Nat.add_comm]
 have x:A*T / Y=q*T+r*T / Y:=by rw [a,Nat.add_mul_div_left _ _ b,Nat.add_comm]
 have o:A*T % Y=r*T % Y:=by rw [a,Nat.add_mul_mod_self_left]
 rw [x,o];have B:r*T / Y<T:=by rw [Nat.div_lt_iff_lt_mul b,Nat.mul_comm T];exact Nat.mul_lt_mul_of_pos_right v m
 have u:=Nat.div_add_mod (r*T) Y;have l:r=0↔r*T=0:=by
  constructor
  ·intro h;rw [h,Nat.zero_mul]
  ·intro h;rcases Nat.mul_eq_zero.1 h with h | h<;>omega
 have w:2*(q*T+r*T / Y)+(if r*T % Y=0 then 0 else 1)=2*q*T+(2*(r*T / Y)+(if r*T % Y=0 then 0 else 1)):=by rw [Nat.mul_add,<- Nat.mul_assoc,Nat.add_assoc]
 rw [w];generalize r*T / Y=c at *
 generalize r*T % Y=s at *
 generalize r*T=i at *
 rw [IF e (by split<;>omega)]
 congr 1
 by_cases d:r=0
 ·have p:i=0:=l.1 d;have n:s=0:=by omega
  have z:c=0:=by
   by_cases f:c=0
   ·exact f
   ·have:=Nat.mul_pos b (show 0<c by omega);omega
  rw [if_pos d,if_pos (by rw [n,z];rfl)]
 ·have p:i≠0:=fun h=>d (l.2 h)
  rw [if_neg d,if_neg];intro h
  by_cases j:s=0
  ·rw [if_pos j] at h
   have g:c=0:=by omega
   rw [g,Nat.mul_zero] at u;omega
  ·rw [if_neg j] at h;omega
theorem jj {X Y a c:Nat} {p:Int} (g:0<Y) (r:a<=c) (f:54<=(aN X Y a).log2):nearR (aN X Y a) (p - a)=nearR (aN X Y c) (p - c):=by
 obtain⟨t,rfl⟩:∃ t,c=a+t:=⟨c - a,by omega⟩
 have d:=tu (X:=X) a t g;obtain⟨M,n⟩:∃ M,aN X Y (a+t)=M:=⟨_,rfl⟩;rw [n] at d ⊢
 have e:aN X Y a≠0:=by intro h;rw [h] at f;exact absurd f (by decide)
 have q:=Nat.log2_self_le e;have o:(2:Nat)^54<=2^(aN X Y a).log2:=Nat.pow_le_pow_right (by decide) f
 have i:bO M t false<=M / 2^t+1:=by unfold bO;split;omega;split<;>omega
 have l:1<=M / 2^t:=by rw [d] at i;omega
 have m:2^t<=M:=(Nat.one_le_div_iff (Nat.two_pow_pos _)).1 l;have b:M≠0:=by have:=Nat.two_pow_pos t;omega
 have k:t<=M.log2:=(Nat.le_log2 b).2 m;have j:=(cW false k b).1;rw [d] at j
 have:=lF (M:=M) (s:=t) (p:=p - ((a+t:Nat):Int)) b (by omega)
 rw [d,show (t:Int)+(p - ((a+t:Nat):Int))=p - a by omega] at this
 exact this
theorem jk {X Y k:Nat} (e:X≠0) (f:Y≠0) (g:54+Y.log2<=X.log2+k):9007199254740992<=X*2^k / Y/\54<=(aN X Y k).log2:=by
 have d:=Nat.log2_self_le e;have c:Y<2^(Y.log2+1):=Nat.lt_log2_self;have b:9007199254740992<=X*2^k / Y:=by
  rw [Nat.le_div_iff_mul_le (by omega)]
  refine Nat.le_trans (Nat.mul_le_mul_left _ (Nat.le_of_lt c)) ?_
  refine Nat.le_trans ?_ (Nat.mul_le_mul_right _ d)
  rw [show (9007199254740992:Nat)=2^53 from rfl,<- Nat.pow_add,<- Nat.pow_add]
  exact Nat.pow_le_pow_right (by decide) (by omega)
 refine⟨b,?_⟩
 have a:2^54<=aN X Y k:=by unfold aN;omega
 exact (Nat.le_log2 (by have:=Nat.two_pow_pos 54;omega)).2 a
theorem AZ {N d:Nat} (m:1<=d):nG N d true=rne (2*N+1) (d+1):=by
 unfold nG rne;have l:=Nat.two_pow_pos d;have g:(2*N+1) / 2^(d+1)=N / 2^d:=by
  rw [Nat.pow_succ,Nat.mul_comm (2^d) 2,<- Nat.div_div_eq_div_mul];congr 1;omega
 have j:(2*N+1) % 2^(d+1)=2*(N % 2^d)+1:=by
  have a:=Nat.div_add_mod (2*N+1) (2^(d+1));have b:=Nat.div_add_mod N (2^d);rw [g,Nat.pow_succ] at a
  have c:2^d*2*(N / 2^d)=2*(2^d*(N / 2^d)):=by rw [Nat.mul_comm (2^d) 2,Nat.mul_assoc]
  rw [Nat.pow_succ];omega
 rw [g,j]
 congr 1
 obtain⟨k,rfl⟩:∃ k,d=k+1:=⟨d - 1,by omega⟩
 rw [Nat.add_sub_cancel];have e:N % 2^(k+1)=N % 2^k+2^k*(N / 2^k % 2):=by rw [Nat.pow_succ,Nat.mod_mul]
 have i:=Nat.two_pow_pos k;have h:N % 2^k<2^k:=Nat.mod_lt _ i;rw [e,Nat.pow_succ,Nat.pow_succ];rcases (show N / 2^k % 2=0\/N / 2^k % 2=1 by omega) with f | f
 ·rw [f,if_neg (by omega),if_neg (by omega)]
 ·rw [f,Nat.mul_one,if_pos ⟨rfl,Or.inr (Or.inl rfl)⟩,if_pos (Or.inl (by omega))]
theorem IG (neg:Bool) {a b:Nat} (h:min a 9218868437227405312=b):cC neg (a:Int)=cC neg (b:Int):=by
 unfold cC;cases neg<;>simp only [Bool.false_eq_true,if_true,if_false]<;>omega
theorem MM (neg:Bool) {r:Nat} (h:r<=9218868437227405312):cC neg (r:Int)=gO neg+(r:Int):=by
 unfold cC gO;cases neg<;>simp only [Bool.false_eq_true,if_true,if_false]<;>omega
theorem kL (neg more:Bool) {N:Nat} (e:Int) (n:9007199254740992<=N):bN neg N e more=gO neg+(nearR (2*N+(if more then 1 else 0)) (e - 1):Int):=by
 have c:N≠0:=by omega
 cases more with
 | false=>
  have h:(2*N+(if (false:Bool)=true then 1 else 0))=2*N:=rfl
  rw [fJ neg e c,h];have:=bf c 1 e;rw [Nat.pow_one,Nat.mul_comm] at this
  rw [show e - 1=e - ((1:Nat):Int) from rfl,this];rfl
 | true=>
  rw [if_pos rfl];have a:(2*N+1).log2=N.log2+1:=by
   rw [Nat.log2_def,if_pos (by omega),show (2*N+1) / 2=N by omega]
  have g:53<=N.log2:=(Nat.le_log2 c).2 (by omega)
  have b:=eK c;have m:ak (2*N+1) (e - 1)=ak N e:=by unfold ak;rw [a];congr 1;omega
  have i:aK N e=ak N e:=by unfold aK ak;rw [b];omega
  have j:e<ak N e:=by unfold ak;omega
  have f:(if km N e=true then if 0<e\/0<(bl N:Int)+e then cC neg 9218868437227405312 else cC neg 0 else cC neg (rnd53 N e true))=cC neg (nearR (2*N+1) (e - 1)):=by
   cases d:km N e
   ·simp only [Bool.false_eq_true,if_false];have k:min (rnd53 N e true) 9218868437227405312=nearR (2*N+1) (e - 1):=by
     unfold rnd53 kD nearR;rw [m,i,if_neg (by omega),AZ (by omega),show (e - 1 - ak N e).toNat=0 by omega,Nat.pow_zero,Nat.mul_one,show (ak N e - (e - 1)).toNat=(ak N e - e).toNat+1 by omega]
    exact IG neg k
   ·simp only [if_true];unfold km at d
    rw [Bool.or_eq_true,decide_eq_true_eq,decide_eq_true_eq] at d
    rcases d with d | d
    ·rw [if_pos (Or.inr (by omega)),jL (by omega) (by omega)];rfl
    ·have l:bl (2*N+1)=bl N+1:=by rw [eK (by omega),a,b]
     rw [if_neg (by omega),pG (by omega) (by rw [l];omega)];rfl
  unfold bN;rw [if_neg c,f];exact MM neg (Nat.min_le_right _ _)
end Go.Proofs.YtfdddijdjpijbaaGreat
namespace Go.Proofs.YtfdddijdjpijbaaGreat
open Go.RowKit
theorem MN (A i j r:Nat) (a:i=32*j+r) (c:r<32):dgt A j / 2^r % 2=A / 2^i % 2:=by
 unfold dgt;have e:A / 2^i=A / 2^(32*j) / 2^r:=by rw [Nat.div_div_eq_div_mul,<- Nat.pow_add,<- a]
 rw [e];generalize A / 2^(32*j)=M;have b:(4294967296:Nat)=2^r*2^(32 - r):=by rw [<- Nat.pow_add,show r+(32 - r)=32 by omega]
 rw [b,Nat.mod_mul_right_div_self];refine Nat.mod_mod_of_dvd _ ?_
 rw [show 32 - r=(31 - r)+1 by omega,Nat.pow_succ]
 exact Nat.dvd_mul_left 2 _
theorem MO {A B i R b:Nat} (g:0<B) (h:R=A / 2^(i+1) % B) (m:b=A / 2^i % 2) :
  (B<=R*2+b->A / 2^i % B=R*2+b - B/\A / 2^i / B*2^i=A / 2^(i+1) / B*2^(i+1)+2^i)/\
  (R*2+b<B->A / 2^i % B=R*2+b/\A / 2^i / B*2^i=A / 2^(i+1) / B*2^(i+1)):=by
 have e:A / 2^(i+1)=A / 2^i / 2:=by rw [Nat.div_div_eq_div_mul,<- Nat.pow_succ]
 rw [e] at h ⊢
 generalize A / 2^i=M at *
 have l:=Nat.div_add_mod (M / 2) B;have j:M / 2 % B<B:=Nat.mod_lt _ g;rw [<- h] at l j
 generalize M / 2 / B=q at *
 have k:q*2^(i+1)=2*q*2^i:=by rw [Nat.pow_succ,<- Nat.mul_assoc,Nat.mul_comm,<- Nat.mul_assoc]
 rw [k];refine⟨fun c=>?_,fun c=>?_⟩
 ·have a:M=(R*2+b - B)+B*(2*q+1):=by
   have:B*(2*q+1)=2*(B*q)+B:=by rw [Nat.mul_add,Nat.mul_one,Nat.mul_left_comm]
   omega
  have f:M % B=R*2+b - B:=by rw [a,Nat.add_mul_mod_self_left,Nat.mod_eq_of_lt (by omega)]
  have d:M / B=2*q+1:=by rw [a,Nat.add_mul_div_left _ _ g,Nat.div_eq_of_lt (by omega),Nat.zero_add]
  rw [f,d,Nat.add_mul,Nat.one_mul];exact⟨rfl,rfl⟩
 ·have a:M=(R*2+b)+B*(2*q):=by
   have:B*(2*q)=2*(B*q):=by rw [Nat.mul_left_comm]
   omega
  have f:M % B=R*2+b:=by rw [a,Nat.add_mul_mod_self_left,Nat.mod_eq_of_lt (by omega)]
  have d:M / B=2*q:=by rw [a,Nat.add_mul_div_left _ _ g,Nat.div_eq_of_lt (by omega),Nat.zero_add]
  rw [f,d];exact⟨rfl,rfl⟩
theorem MP {Q i j r:Nat} (g:i=32*j+r) (k:r<32) :
  dgt (Q*2^(i+1)) j+2^r<4294967296/\kn (Q*2^(i+1)) j (dgt (Q*2^(i+1)) j+2^r)=Q*2^(i+1)+2^i:=by
 constructor
 ·unfold dgt;have e:Q*2^(i+1)=Q*2^(r+1)*2^(32*j):=by rw [Nat.mul_assoc,<- Nat.pow_add];congr 2;omega
  have a:(4294967296:Nat)=2^(31 - r)*2^(r+1):=by rw [<- Nat.pow_add,show 31 - r+(r+1)=32 by omega]
  rw [e,Nat.mul_div_cancel _ (Nat.two_pow_pos _)];have d:Q*2^(r+1) % 4294967296=(Q % 2^(31 - r))*2^(r+1):=by rw [a,Nat.mul_mod_mul_right]
  have b:Q % 2^(31 - r)<2^(31 - r):=Nat.mod_lt _ (Nat.two_pow_pos _);have c:(Q % 2^(31 - r)+1)*2^(r+1)<=2^(31 - r)*2^(r+1):=Nat.mul_le_mul_right _ b;rw [<- a,Nat.add_mul,Nat.one_mul,Nat.pow_succ] at c
  rw [d,Nat.pow_succ];have f:=Nat.two_pow_pos r;omega
 ·have h:=pL (Q*2^(i+1)) j (dgt (Q*2^(i+1)) j+2^r);rw [Nat.add_mul,<- Nat.pow_add,show r+32*j=i by omega] at h
  omega
theorem bQ {A B:Nat} {v:Value} (h:From B v) (b:A<=B):From A v:=fun a l c e=>Nat.le_trans b (h a l c e)
theorem dz {w:World} {v:Value} {N:Nat} (h:DN w v N):∃ p l c,v=.slice p l c:=by obtain⟨p,c,e⟩:=h.form;exact⟨p,_,c,e⟩
theorem iB {w a:World} {b n M s:Nat} (h:Own w b n M) (d:b<s) (i:Below s w a):Own a b n M:=by
 obtain⟨c,g,f,e⟩:=h;exact⟨c,by rw [i.block b d];exact g,f,e⟩
theorem Pe (N:Nat):bl N<=32*nd N:=by
 unfold bl nd
 by_cases h:N=0
 ·rw [if_pos h];omega
 ·rw [if_neg h,if_neg h];omega
theorem Pf (w:World):DN (w.alloc (.cells #[.int .u64 1] 41)) (.slice (some ⟨w.heap.size,0,none⟩) 1 1) 1:=by
 refine Or.inr ⟨by decide,w.heap.size,1,by rw [show nd 1=1 by decide],by decide,by simp,fun i hi=>?_⟩
 rw [show nd 1=1 by decide] at hi
 rw [show i=0 by omega]
 simp
 decide
theorem sD (g c n L A B:Nat) (vb:Value) (w:World) (bk:Hid (RowIs w g n A)) (hg:g<w.heap.size) (ct:A≠0) (ba:Hid (nd A=n)) (dp:n<=c) (hL:Hid (bl A=L)) (ea:L<=32*n) (hB:DN w vb B) (cx:0<B) (hn:n<=10000) (dV:nd B<=10000) :
  Calls Tryz.prog 96 #[.slice (some ⟨g,0,none⟩) n c,vb] w fun e F=>∃ q r,e=.returned (.tuple #[q,r])/\DN F q (A / B)/\DN F r (A % B)/\From w.heap.size q/\From w.heap.size r/\Below w.heap.size w F:=by
 have dx:=fun w=>run_make_row' (P:=Tryz.prog) 33 41 (.int .u64 0) 8 Tryz.underlying33 eA rfl .i64 .i64 n (by omega) (by omega) w
 have HO:=aa (pC w n);have cf:Hid (Below w.heap.size w (w.alloc (.cells (madeCells #[.int .u64 0] n) 41))):=(Below.refl _ _).alloc (Nat.le_refl _) _;have dg:Hid (DN w (.slice (some ⟨g,0,none⟩) n c) A):=Or.inr ⟨ct,g,c,by rw [ba.out],by rw [ba.out];exact dp,hg,by rw [ba.out];exact bk.out⟩
 have cr:Hid (∀ F,Below w.heap.size w F->Calls Tryz.prog 95 #[.slice (some ⟨g,0,none⟩) n c] F fun e ds=>e=.returned (.int .i64 (L:Int))/\F=ds):=fun F hb=>by
  have:=oO _ A F (dg.out.below hb) (by rw [ba.out];omega)
  rw [hL.out] at this
  exact this.mono fun _ _ ⟨a,b⟩=>⟨a,b.symm⟩
 have HB:=aa hB;have cs:Hid (A<2^L):=by
  show A<2^L
  rw [<- hL.out];unfold bl;rw [if_neg ct];exact Nat.lt_log2_self
 clear hB
 go_enter Tryz.func96,Tryz.ntmps96
 go_wp2_with fail
 refine (cr.out _ cf.out).mono ?_
 rintro e F ⟨rfl,rfl⟩
 go_wp2_with fail
 go_loopw [6,8] (fun v i wr=>∃ k:Nat,k<=L/\i=.int .i64 ((k:Int) - 1)/\Hid (DN wr v (A / 2^k % B))/\Hid (From (w.heap.size+1) v)/\Hid (Own wr w.heap.size n (A / 2^k / B*2^k))/\Hid (Below w.heap.size w wr)) (fun _ i _=>(intOf i+1).toNat)
 case atStart=>
  have e:A / 2^L=0:=Nat.div_eq_of_lt cs.out;exact⟨L,Nat.le_refl _,rfl,by rw [e,Nat.zero_mod];exact Or.inl ⟨rfl,_,_,rfl⟩,gI _,by rw [e,Nat.zero_div,Nat.zero_mul];exact HO,cf⟩
 case round=>
  clear HO dx cf;obtain⟨k,hk,rfl,HD,cy,f,E⟩:=hrel;cases k with
  | zero=>
   rw [Nat.pow_zero,Nat.div_one] at HD f
   rw [Nat.mul_one] at f
   have hM:Hid (A / B<2^(32*n)):=Nat.lt_of_le_of_lt (Nat.div_le_self _ _) (by rw [<- ba.out];exact dh A)
   have cq:=f.out.lt;have HQ:=aa (nH f.out.row hM.out (Nat.le_refl _) cq)
   go_wp2_with fail
   refine (du _ _ _ _ _ f.out.row hM.out (Nat.le_refl _) (by omega)).mono ?_
   rintro e F ⟨rfl,rfl⟩
   go_wp2_with fail
   go_ret2
   exact⟨_,_,rfl,HQ.out,HD.out,ij _ _ _ _ (Nat.le_refl _),bQ cy.out (by omega),E.out⟩
  | succ i=>
   have hz:w.heap.size<wr.heap.size:=f.out.lt;obtain⟨R,hR⟩:∃ R,R=A / 2^(i+1) % B:=⟨_,rfl⟩;rw [<- hR] at HD
   obtain⟨pv,cv,rfl⟩:=HD.out.form;have dn:R<B:=by rw [hR];exact Nat.mod_lt _ cx
   have dE:Hid (nd R<=10000000):=by
    have h1:R<2^(32*nd B):=Nat.lt_trans dn (dh B);have:=bP h1
    show nd R<=10000000
    omega
   obtain⟨b,hb⟩:∃ b,b=A / 2^i % 2:=⟨_,rfl⟩;have K:=aa (MO cx hR hb);obtain⟨S,hS⟩:∃ S,R*2+b=S:=⟨_,rfl⟩;rw [hS] at K
   have dU:S<2*B:=by
    have:b<2:=by rw [hb];exact Nat.mod_lt _ (by decide)
    omega
   have ab:Hid (nd S<=10000000):=by
    have h1:S<2^(32*(nd B+1)):=by
     have:=dh B;rw [gH];omega
    have:=bP h1
    show nd S<=10000000
    omega
   obtain⟨j,r,bs,hr⟩:∃ j r,i=32*j+r/\r<32:=⟨i / 32,i % 32,by omega,by omega⟩
   have bx:j<n:=by omega
   have hq:(i:Int) / 32=j:=by omega
   have db:(i:Int) % 32=r:=by omega
   have dY:=aa bs;have cl:=bk.out j bx;have cc:wr.cell? ⟨g,j,none⟩=some (.int .u64 (dgt A j:Int)):=(E.out.cell (p:=⟨g,j,none⟩) hg).trans (bk.out j bx);have V:((dgt A j:Int) / 2^r).tmod 2=b:=by
    have:=MN A i j r bs hr;rw [<- hb] at this
    rw [<- this];have e1:((2:Int)^r)=((2^r:Nat):Int):=by rw [Int.natCast_pow];rfl
    rw [e1,<- Int.natCast_ediv,Int.tmod_eq_emod_of_nonneg (Int.natCast_nonneg _)];rfl
   have ai:=aa (MP (Q:=A / 2^(i+1) / B) bs hr);have dd:=bB A j;generalize dgt A j=D at cc V dd
   have cu:Hid (Calls Tryz.prog 97 #[.slice pv (nd R) cv,.int .i64 1] wr fun e F=>∃ v,e=.returned v/\DN F v (R*2)/\From wr.heap.size v/\Below wr.heap.size wr F):=jf _ R 1 wr HD.out dE.out (by omega)
   have dF:b=0/\R*2=S\/b=1/\R*2+1=S:=by
    have:b<2:=by rw [hb];exact Nat.mod_lt _ (by decide)
    omega
   clear hR hb HD cy hS bs cl;generalize nd R=lR at *
   have dy:((i+1:Nat):Int) - 1=i:=by omega
   rw [dy]
   go_wp2_with fail
   refine cu.out.mono ?_
   rintro e O ⟨v1,rfl,N,al,Z⟩;obtain⟨p1,l1,c1,rfl⟩:=dz N;have da:O.cell? ⟨g,j,none⟩=some (.int .u64 (D:Int)):=(Z.cell (p:=⟨g,j,none⟩) (Nat.lt_of_lt_of_le hg E.out.size)).trans cc;have dc:wr.heap.size<=O.heap.size:=Z.size;have bv:=aa Z;clear Z cu cc;rcases dF with⟨rfl,hS⟩| ⟨rfl,hS⟩
   ·have di:(((D:Int) / 2^r).tmod 2==1)=false:=by rw [V];rfl
    clear V;rw [hS] at N
    have C:=aa N;have bh:=aa al;clear N al hS
    go_wp2_with fail
    have y:=bv
    by_cases hc:B<=S
    ·obtain⟨t,ht,df⟩:∃ t:Int,mL S B=t/\0<=t:=by
      rcases Nat.lt_or_eq_of_le hc with h | h
      ·exact⟨1,lp h,by decide⟩
      ·exact⟨0,lm h.symm,by decide⟩
     have m:=aa (E.out.trans (y.out.mono E.out.size));have u:Hid (Calls Tryz.prog 115 #[.slice p1 l1 c1,vb] O fun e F=>e=.returned (.int .i64 t)/\∃ q,F=O.drewN q):=by
      rw [<- ht];exact cO _ _ S B O C.out (HB.out.below m.out) ab.out
     refine u.out.mono ?_
     rintro e w3 ⟨rfl,q3,M⟩;have s:Hid (Below O.heap.size O w3):=by rw [M];exact below_drewN (Below.refl _ _) _
     have l:=aa (m.out.trans (s.out.mono m.out.size));have G:=aa (dZ _ _ S B w3 (C.out.below s.out) (HB.out.below l.out) ab.out hc);obtain⟨I,J⟩:=K.out.1 hc;rw [<- I] at G
     have ci:=aa J;clear ht I J M u
     go_wp2_with fail
     refine G.out.mono ?_
     rintro e w4 ⟨v4,rfl,X,bc,Y⟩;obtain⟨p4,l4,c4,rfl⟩:=dz X;have z:=aa (y.out.trans (s.out.mono y.out.size));have U:=aa (z.out.trans (Y.mono z.out.size));have W:=aa (l.out.trans (Y.mono l.out.size));have T:=aa (iB f.out hz U.out);have ho:=T.out.cell (i:=j) bx;have fo:=T.out.frozen j;obtain⟨ad,H⟩:=ai.out;rw [<- ci.out] at H
     have bi:=aa X;have am:=aa (bQ bc (show wr.heap.size<=_ from z.out.size))
     obtain⟨o,br⟩:∃ o,dgt (A / 2^(i+1) / B*2^(i+1)) j=o:=⟨_,rfl⟩;rw [br] at ho ad H
     obtain⟨P,hP⟩:∃ P,2^r=P:=⟨_,rfl⟩;have wp:=pD hr;rw [hP] at wp ad H
     have e1:((2:Int)^r)=(P:Int):=by rw [<- hP,Int.natCast_pow];rfl
     have ws:IntKind.u64.wrap ((o:Int)+(P:Int))=((o+P:Nat):Int):=by rw [IntKind.wrap_u64];omega
     have td:(i:Int).tdiv 32=j:=by rw [Int.tdiv_eq_ediv_of_nonneg (by omega)];exact hq
     have tm:(i:Int).tmod 32=r:=by rw [Int.tmod_eq_emod_of_nonneg (by omega)];exact db
     have jn:(j:Int)<(n:Int):=by omega
     have bo:=aa H;clear X bc Y br hP H ai K f s m l G C bh E bv y
     go_wp2_with fail
     go_region
     have cp:=aa (bi.out.set (bQ am.out hz) (a:=⟨w.heap.size,j,none⟩) (Nat.lt_succ_self _) (.int .u64 ((o:Int)+(P:Int))));have bb:=aa (Own.put (j:=j) (d:=o+P) (x:=(o:Int)+(P:Int)) T.out (by omega) ad)
     rw [bo.out] at bb
     have ca:=aa (W.out.setCell (p:=⟨w.heap.size,j,none⟩) (Nat.le_refl _) (.int .u64 ((o:Int)+(P:Int)))).drew;clear T bi W U z bo
     go_wp2_with fail
     go_roundw
     case rel=>exact⟨i,by omega,rfl,cp,bQ am.out hz,bb,ca⟩
     case measure=>simp [intOf]
    ·obtain⟨I,J⟩:=K.out.2 (by omega)
     have m:=aa (E.out.trans (y.out.mono E.out.size));have u:Hid (Calls Tryz.prog 115 #[.slice p1 l1 c1,vb] O fun e F=>e=.returned (.int .i64 (-1))/\∃ q,F=O.drewN q):=by
      rw [<- ll (show S<B by omega)];exact cO _ _ S B O C.out (HB.out.below m.out) ab.out
     have HO:=aa f.out;rw [<- J] at HO
     rw [<- I] at C
     refine u.out.mono ?_
     rintro e w3 ⟨rfl,q3,M⟩;have s:Hid (Below O.heap.size O w3):=by rw [M];exact below_drewN (Below.refl _ _) _
     have l:=aa (m.out.trans (s.out.mono m.out.size));have cm:=aa (C.out.below s.out);have cd:=aa (iB HO.out hz ((y.out.trans (s.out.mono y.out.size))));clear I J M u HO f s m
     go_wp2_with fail
     go_roundw
     case rel=>exact⟨i,by omega,rfl,cm,bQ bh.out (by omega),cd,l⟩
     case measure=>simp [intOf]
   ·have di:(((D:Int) / 2^r).tmod 2==1)=true:=by rw [V];rfl
    clear V;have bz:Hid (Calls Tryz.prog 114 #[.slice p1 l1 c1,.slice (some ⟨O.heap.size,0,none⟩) 1 1] (O.alloc (.cells #[.int .u64 1] 41)) fun e F=>∃ v,e=.returned v/\DN F v S/\From O.heap.size v/\Below O.heap.size O F):=by
     have hb:=(Below.refl O.heap.size O).alloc (Nat.le_refl _) (.cells #[.int .u64 1] 41);have h2:=ab.out;have h3:nd (R*2)<=10000000:=Nat.le_trans (bP (Nat.lt_of_le_of_lt (show R*2<=S by omega) (dh S))) h2
     have:=kt _ _ (R*2) 1 _ (N.below hb) (Pf O) h3 (by decide)
     rw [hS] at this
     exact this.mono fun _ _ ⟨v,a,b,c,d⟩=>⟨v,a,b,bQ c (by simp),hb.trans (d.mono (by simp))⟩
    clear N al hS
    go_wp2_with fail
    refine bz.out.mono ?_
    rintro e w2 ⟨v2,rfl,N,al,Z⟩;obtain⟨p2,l2,c2,rfl⟩:=dz N;have C:=aa N;have bh:=aa (bQ al dc);have dk:=aa (bv.out.trans (Z.mono dc));clear N al Z bz da
    go_wp2_with fail
    have y:=dk
    by_cases hc:B<=S
    ·obtain⟨t,ht,df⟩:∃ t:Int,mL S B=t/\0<=t:=by
      rcases Nat.lt_or_eq_of_le hc with h | h
      ·exact⟨1,lp h,by decide⟩
      ·exact⟨0,lm h.symm,by decide⟩
     have m:=aa (E.out.trans (y.out.mono E.out.size));have u:Hid (Calls Tryz.prog 115 #[.slice p2 l2 c2,vb] w2 fun e F=>e=.returned (.int .i64 t)/\∃ q,F=w2.drewN q):=by
      rw [<- ht];exact cO _ _ S B w2 C.out (HB.out.below m.out) ab.out
     refine u.out.mono ?_
     rintro e w3 ⟨rfl,q3,M⟩;have s:Hid (Below w2.heap.size w2 w3):=by rw [M];exact below_drewN (Below.refl _ _) _
     have l:=aa (m.out.trans (s.out.mono m.out.size));have G:=aa (dZ _ _ S B w3 (C.out.below s.out) (HB.out.below l.out) ab.out hc);obtain⟨I,J⟩:=K.out.1 hc;rw [<- I] at G
     have ci:=aa J;clear ht I J M u
     go_wp2_with fail
     refine G.out.mono ?_
     rintro e w4 ⟨v4,rfl,X,bc,Y⟩;obtain⟨p4,l4,c4,rfl⟩:=dz X;have z:=aa (y.out.trans (s.out.mono y.out.size));have U:=aa (z.out.trans (Y.mono z.out.size));have W:=aa (l.out.trans (Y.mono l.out.size));have T:=aa (iB f.out hz U.out);have ho:=T.out.cell (i:=j) bx;have fo:=T.out.frozen j;obtain⟨ad,H⟩:=ai.out;rw [<- ci.out] at H
     have bi:=aa X;have am:=aa (bQ bc (show wr.heap.size<=_ from z.out.size))
     obtain⟨o,br⟩:∃ o,dgt (A / 2^(i+1) / B*2^(i+1)) j=o:=⟨_,rfl⟩;rw [br] at ho ad H
     obtain⟨P,hP⟩:∃ P,2^r=P:=⟨_,rfl⟩;have wp:=pD hr;rw [hP] at wp ad H
     have e1:((2:Int)^r)=(P:Int):=by rw [<- hP,Int.natCast_pow];rfl
     have ws:IntKind.u64.wrap ((o:Int)+(P:Int))=((o+P:Nat):Int):=by rw [IntKind.wrap_u64];omega
     have td:(i:Int).tdiv 32=j:=by rw [Int.tdiv_eq_ediv_of_nonneg (by omega)];exact hq
     have tm:(i:Int).tmod 32=r:=by rw [Int.tmod_eq_emod_of_nonneg (by omega)];exact db
     have jn:(j:Int)<(n:Int):=by omega
     have bo:=aa H;clear X bc Y br hP H ai K f s m l G C bh E bv y
     go_wp2_with fail
     go_region
     have cp:=aa (bi.out.set (bQ am.out hz) (a:=⟨w.heap.size,j,none⟩) (Nat.lt_succ_self _) (.int .u64 ((o:Int)+(P:Int))));have bb:=aa (Own.put (j:=j) (d:=o+P) (x:=(o:Int)+(P:Int)) T.out (by omega) ad)
     rw [bo.out] at bb
     have ca:=aa (W.out.setCell (p:=⟨w.heap.size,j,none⟩) (Nat.le_refl _) (.int .u64 ((o:Int)+(P:Int)))).drew;clear T bi W U z bo
     go_wp2_with fail
     go_roundw
     case rel=>exact⟨i,by omega,rfl,cp,bQ am.out hz,bb,ca⟩
     case measure=>simp [intOf]
    ·obtain⟨I,J⟩:=K.out.2 (by omega)
     have m:=aa (E.out.trans (y.out.mono E.out.size));have u:Hid (Calls Tryz.prog 115 #[.slice p2 l2 c2,vb] w2 fun e F=>e=.returned (.int .i64 (-1))/\∃ q,F=w2.drewN q):=by
      rw [<- ll (show S<B by omega)];exact cO _ _ S B w2 C.out (HB.out.below m.out) ab.out
     have HO:=aa f.out;rw [<- J] at HO
     rw [<- I] at C
     refine u.out.mono ?_
     rintro e w3 ⟨rfl,q3,M⟩;have s:Hid (Below w2.heap.size w2 w3):=by rw [M];exact below_drewN (Below.refl _ _) _
     have l:=aa (m.out.trans (s.out.mono m.out.size));have cm:=aa (C.out.below s.out);have cd:=aa (iB HO.out hz ((y.out.trans (s.out.mono y.out.size))));clear I J M u HO f s m
     go_wp2_with fail
     go_roundw
     case rel=>exact⟨i,by omega,rfl,cm,bQ bh.out (by omega),cd,l⟩
     case measure=>simp [intOf]
theorem sE (v h:Value) (A B:Nat) (w:World) (n:DN w v A) (o:DN w h B) (a:A≠0) (f:0<B) (m:nd A<=10000) (j:nd B<=10000) :
  Calls Tryz.prog 96 #[v,h] w fun e d=>∃ q r,e=.returned (.tuple #[q,r])/\DN d q (A / B)/\DN d r (A % B)/\From w.heap.size q/\From w.heap.size r/\Below w.heap.size w d:=by
 rcases n with⟨b,_⟩| ⟨b,g,c,rfl,l,i,k⟩
 ·exact absurd b a
 ·exact sD g c (nd A) (bl A) A B h w k i b rfl l rfl (Pe A) o f m j
theorem jl (nx t mo:Bool) (vx vy:Value) (ex ey E:Int) (X Y k lr:Nat) (w:World) (hX:DN w vx X) (hY:DN w vy Y) (ai:X≠0) (br:Y≠0) (K:nd X<=300) (T:nd Y<=100)
  (he: -10000<=ex) (bx:ex<=10000) (hf: -10000<=ey) (cc:ey<=10000) (hk:max 0 (70 - (bl X:Int)+(bl Y:Int))=(k:Int)) (Z:Hid (nd (X*2^k % Y)=lr)) (ca:decide (0<lr)=mo) (q:Hid (bN nx (X*2^k / Y) (ex - k - ey) mo=E)) :
  Calls Tryz.prog 61 #[.agg #[.bool nx,vx,.int .i64 ex],.agg #[.bool t,vy,.int .i64 ey]] w fun x a=>x=.returned (.int .u64 E)/\Below w.heap.size w a:=by
 have bk:=sX X;have bs:=sX Y;have bz:k<=10000:=by omega
 obtain⟨e,c,d,rfl⟩:=dz hX;obtain⟨p,j,n,rfl⟩:=dz hY;have z:Hid (Below w.heap.size w (boxN (boxN w nx (.slice e c d) ex) t (.slice p j n) ey)):=(aD w nx (.slice e c d) ex).trans ((aD (boxN w nx (.slice e c d) ex) t (.slice p j n) ey).mono (by simp))
 have HZ:=aa (gK w nx (.slice e c d) ex t (.slice p j n) ey);have V:=aa (ve w nx (.slice e c d) ex t (.slice p j n) ey);have HX:=aa fun a (hb:Below w.heap.size w a)=>hX.below hb
 have HY:=aa fun a (hb:Below w.heap.size w a)=>hY.below hb
 have bb:=aa ai;have ad:Hid (X*2^k≠0):=by
  have:=Nat.mul_pos (show 0<X by omega) (Nat.two_pow_pos k)
  show X*2^k≠0
  omega
 have s:Hid (nd (X*2^k)<=10000):=by
  have h1:X*2^k<2^(32*nd X)*2^k:=Nat.mul_lt_mul_of_pos_right (dh X) (Nat.two_pow_pos _);rw [<- Nat.pow_add] at h1
  have:=bP (N:=X*2^k) (k:=nd X+k / 32+1) (Nat.lt_of_lt_of_le h1 (Nat.pow_le_pow_right (by decide) (by omega)))
  show nd (X*2^k)<=10000
  omega
 have J:Hid (nd (X*2^k / Y)<=1000000):=by
  have:=bP (Nat.lt_of_le_of_lt (Nat.div_le_self (X*2^k) Y) (dh (X*2^k)));have h2:=s.out
  show nd (X*2^k / Y)<=1000000
  omega
 have R:Hid (0<Y):=by show 0<Y;omega
 have r:=aa K;have D:=aa T;obtain⟨f,C⟩:∃ f:Int,(bl X:Int)=f:=⟨_,rfl⟩;obtain⟨B,A⟩:∃ B:Int,(bl Y:Int)=B:=⟨_,rfl⟩;rw [C,A] at hk
 have b1:0<=f:=by omega
 have b2:f<=9600:=by omega
 have b3:0<=B:=by omega
 have b4:B<=3200:=by omega
 have U:=aa C;have P:=aa A;have f1:IntKind.i64.wrap (70 - f)=70 - f:=by rw [IntKind.wrap_i64];omega
 have f2:IntKind.i64.wrap (70 - f+B)=70 - f+B:=by rw [IntKind.wrap_i64];omega
 have f3:IntKind.i64.wrap (ex - (k:Int))=ex - (k:Int):=by rw [IntKind.wrap_i64];omega
 have f4:IntKind.i64.wrap (ex - (k:Int) - ey)=ex - (k:Int) - ey:=by rw [IntKind.wrap_i64];omega
 clear hX hY ai br C A bk bs K T
 go_enter Tryz.func61,Tryz.ntmps61
 go_wp2_with fail
 refine (aY _ _ _ X false _ (HX.out _ z.out) (decide_eq_false bb.out)).mono ?_
 rintro x w1 ⟨rfl,h⟩;have u:=aa (V.out.below h (by rw [HZ.out];omega))
 have ab:w.heap.size+2<=w1.heap.size:=by have h9:=h.size;rw [HZ.out] at h9;exact h9
 have g:=aa (z.out.trans (h.mono z.out.size));obtain⟨c0,c1,c2,c3,c4,c5⟩:=u.out;clear h
 go_wp2_with fail
 go_quiet ((first | (go_at_call_of 95 (Value.slice e c d);exact Calls.quiet_of_same (mK (.slice e c d) X f _ (HX.out _ (below_drewN g.out _)) (by have:=r.out;omega) U)) | (go_at_call_of 95 (Value.slice p j n);exact Calls.quiet_of_same (mK (.slice p j n) Y B _ (HY.out _ (below_drewN g.out _)) (by have:=D.out;omega) P))))
 obtain⟨o,b⟩:∃ o,o=w1.drewN nq:=⟨_,rfl⟩;rw [<- b];have l:Hid (Six o w.heap.size nx (.slice e c d) ex t (.slice p j n) ey):=by rw [b];exact u.out
 have bo:w.heap.size+2<=o.heap.size:=by rw [b];exact ab
 have y:Hid (Below w.heap.size w o):=by rw [b];exact below_drewN g.out _
 clear b c0 c1 c2 c3 c4 c5 u g ab V U P hk;obtain⟨d0,d1,d2,d3,d4,d5⟩:=l.out;have O:=aa (jf (.slice e c d) X k o.drew (HX.out _ y.out.drew) (by have:=r.out;omega) (by omega))
 go_wp2_with fail
 go_region_held3 (fun a=>a.cell? ⟨w.heap.size,0,none⟩=some (.bool nx)/\a.cell? ⟨w.heap.size,1,none⟩=some (.slice e c d)/\a.cell? ⟨w.heap.size,2,none⟩=some (.int .i64 ex)/\a.cell? ⟨w.heap.size+1,0,none⟩=some (.bool t)/\a.cell? ⟨w.heap.size+1,1,none⟩=some (.slice p j n)/\a.cell? ⟨w.heap.size+1,2,none⟩=some (.int .i64 ey)) (first | exact l.out | exact F.out | exact H.out | go_keep) (first | ((go_at_call 97;refine O.out.mono ?_;rintro x w3 ⟨v3,rfl,W,am,i⟩;have F:=aa (Six.below (w:=o.drew) l.out i (show w.heap.size+1<o.heap.size by omega));have m:=aa (y.out.drew.trans (i.mono (show w.heap.size<=o.heap.size by omega)));have bv:w.heap.size+2<=w3.heap.size:=Nat.le_trans bo i.size;have L:=aa W;clear W am i)) | ((go_at_call 96;refine (sE _ (.slice p j n) (X*2^k) Y w3 L.out (HY.out _ m.out) ad.out R.out s.out (by have:=D.out;omega)).mono ?_;rintro x w4 ⟨vq,vr,rfl,G,M,bh,bc,v⟩;have H:=aa (Six.below F.out v (show w.heap.size+1<w3.heap.size by omega));have S:=aa (m.out.trans (v.mono m.out.size));obtain⟨pq,lq,cq,rfl⟩:=dz G;obtain⟨pr,cr,al⟩:=M.form;rw [Z.out] at al;subst al;have I:=aa G;clear G M bh bc v)))
 clear d0 d1 d2 d3 d4 d5;obtain⟨d0,d1,d2,d3,d4,d5⟩:=H.out;have bi:Hid (Calls Tryz.prog 98 #[.agg #[.bool nx,.slice pq lq cq,.int .i64 (ex - (k:Int) - ey)],.bool mo] w4 fun x a=>x=.returned (.int .u64 E)/\Below w4.heap.size w4 a):=by
  rw [<- q.out];exact lk nx mo (.slice pq lq cq) (ex - (k:Int) - ey) (X*2^k / Y) w4 I.out J.out (by omega) (by omega)
 clear l F H m y O L HX HY I ad s J R r D q Z f1 f2 f3 f4
 go_wp2_with fail
 refine bi.out.mono ?_
 rintro x w5 ⟨rfl,Q⟩;have ba:=aa (S.out.trans (Q.mono S.out.size));clear Q
 go_wp2_with fail
 go_ret
 exact⟨rfl,ba.out⟩
theorem xE {x y:Nat} (h:(x % 9223372036854775808=9218868437227405312/\y % 9223372036854775808=9218868437227405312)\/(x % 9223372036854775808=0/\y % 9223372036854775808=0)):floatBits .quo .f64 x y=none:=by
 show ((Ieee.double.read x).quotient 54 (Ieee.double.read y)).map Ieee.double.write=_
 rcases h with⟨b,a⟩| ⟨b,a⟩
 ·rw [aS b,aS a];rfl
 ·rw [ax (by omega),ax (by omega),b,a];rfl
theorem Dm {x y:Nat} (b:x % 9223372036854775808=9218868437227405312) (a:ag y):floatBits .quo .f64 x y=some (wrd (sB x^^sB y) 9218868437227405312):=by
 show ((Ieee.double.read x).quotient 54 (Ieee.double.read y)).map Ieee.double.write=_
 rw [aS b,ax a]
 show some (Ieee.double.write (.infinity _))=_
 rw [dP];rfl
theorem nL {x y:Nat} (e:ag x) (a:x % 9223372036854775808≠0) (c:y % 9223372036854775808=0):floatBits .quo .f64 x y=some (wrd (sB x^^sB y) 9218868437227405312):=by
 have d:=fL a
 show ((Ieee.double.read x).quotient 54 (Ieee.double.read y)).map Ieee.double.write=_
 rw [ax e,ax (b:=y) (by omega),c,show mg 0=0 by decide]
 show (if mg (x % 9223372036854775808)=0 then none else some (Ieee.Datum.infinity (_^^_))).map Ieee.double.write=_
 rw [if_neg d]
 show some (Ieee.double.write (.infinity _))=_
 rw [dP];rfl
theorem Ba (s:Bool) (i:Int):Ieee.double.write (.number s 0 i)=wrd s 0:=by
 show Ieee.double.nearest s 0 i=_
 rw [cG,io]
theorem pX {x y:Nat} (b:ag x) (a:y % 9223372036854775808=9218868437227405312):floatBits .quo .f64 x y=some (wrd (sB x^^sB y) 0):=by
 show ((Ieee.double.read x).quotient 54 (Ieee.double.read y)).map Ieee.double.write=_
 rw [ax b,aS a]
 show some (Ieee.double.write (.number _ 0 0))=_
 rw [Ba];rfl
theorem tv (s t:Bool) (m n:Nat) (i j:Int) (hn:n≠0):((Ieee.Datum.number s m i).quotient 54 (.number t n j)).map Ieee.double.write=some (Ieee.double.nearest (s^^t) (2*(m*2^(54+n.log2 - m.log2) / n)+(m*2^(54+n.log2 - m.log2) % n !=0).toNat) (i - j - ((54+n.log2 - m.log2:Nat):Int) - 1)):=by
 show (if n=0 then _ else some (Ieee.Datum.number (s^^t) (2*((m <<< (54+n.log2 - m.log2)) / n)+((m <<< (54+n.log2 - m.log2)) % n !=0).toNat) (i - j - ((54+n.log2 - m.log2:Nat):Int) - 1))).map Ieee.double.write=_
 rw [if_neg hn,Nat.shiftLeft_eq]
 rfl
theorem pY {x y:Nat} (e:x % 9223372036854775808=0) (c:ag y) (a:y % 9223372036854775808≠0):floatBits .quo .f64 x y=some (wrd (sB x^^sB y) 0):=by
 have d:=fL a
 show ((Ieee.double.read x).quotient 54 (Ieee.double.read y)).map Ieee.double.write=_
 rw [ax (b:=x) (by omega),ax c,e,tv _ _ _ _ _ _ d,show mg 0=0 by decide,Nat.zero_mul,Nat.zero_div,Nat.zero_mod]
 show some (Ieee.double.nearest _ 0 _)=_
 rw [cG,io];rfl
theorem MQ (X Y k:Nat):2*(X*2^k / Y)+(X*2^k % Y !=0).toNat=aN X Y k:=by
 unfold aN
 congr 1
 by_cases h:X*2^k % Y=0
 ·rw [if_pos h,h];rfl
 ·rw [if_neg h,show (X*2^k % Y !=0)=true by simpa using h];rfl
theorem jU {x y:Nat} (l:ag x) (m:ag y) (n:x % 9223372036854775808≠0) (j:y % 9223372036854775808≠0) {X Y:Nat} {ex ey:Int} (i:X=mg (x % 9223372036854775808)) (g:Y=mg (y % 9223372036854775808)) (c:ex= -1074+(pl (x % 9223372036854775808):Int)) (b:ey= -1074+(pl (y % 9223372036854775808):Int)) {k:Nat} (o:54+Y.log2 - X.log2<=k) :
  floatBits .quo .f64 x y=some (wrd (sB x^^sB y) (nearR (aN X Y k) (ex - ey - 1 - k))):=by
 have f:X≠0:=by rw [i];exact fL n
 have a:Y≠0:=by rw [g];exact fL j
 show ((Ieee.double.read x).quotient 54 (Ieee.double.read y)).map Ieee.double.write=_
 rw [ax l,ax m,<- i,<- g,<- c,<- b,tv _ _ _ _ _ _ a,MQ];have e:=jk f a (k:=54+Y.log2 - X.log2) (by omega)
 have d:aN X Y (54+Y.log2 - X.log2)≠0:=by intro h;rw [h] at e;exact absurd e.2 (by decide)
 rw [bV _ d,io];have:=jj (X:=X) (Y:=Y) (p:=ex - ey - 1) (by omega) o e.2
 rw [<- this,show ex - ey - ((54+Y.log2 - X.log2:Nat):Int) - 1=ex - ey - 1 - ((54+Y.log2 - X.log2:Nat):Int) by omega]
 rfl
theorem iC (u v:Int) (w:World) (h:U64 u) (b:U64 v) (hc:ah u=true\/(ah u=false/\ah v=true)\/(ah u=false/\ah v=false/\aX u=true/\aX v=true)\/(ah u=false/\ah v=false/\aX u=false/\(szI u==0)=true/\(szI v==0)=true)) :
  Calls Tryz.prog 144 #[.int .u64 u,.int .u64 v] w fun e a=>e=.returned (.int .u64 9221120237041090561)/\a=w:=by
 have i:=vk h b;rcases hc with c | ⟨c,d⟩| ⟨c,d,g,f⟩| ⟨c,d,g,f,j⟩
 all_goals
  go_enter Tryz.func144,Tryz.ntmps144
  go_wp2_with (first | (go_at_call_of 49 (Value.int IntKind.u64 u);refine (aj u _ h).mono ?_;rintro e a ⟨rfl,rfl⟩) | (go_at_call_of 49 (Value.int IntKind.u64 v);refine (aj v _ b).mono ?_;rintro e a ⟨rfl,rfl⟩) | (go_at_call_of 72 (Value.int IntKind.u64 u);refine (av u _ h).mono ?_;rintro e a ⟨rfl,rfl⟩) | (go_at_call_of 72 (Value.int IntKind.u64 v);refine (av v _ b).mono ?_;rintro e a ⟨rfl,rfl⟩) | (go_at_call_of 76 (Value.int IntKind.u64 u);refine (aH u _ h).mono ?_;rintro e a ⟨rfl,rfl⟩) | (go_at_call_of 76 (Value.int IntKind.u64 v);refine (aH v _ b).mono ?_;rintro e a ⟨rfl,rfl⟩))
  go_ret
  exact⟨rfl,rfl⟩
theorem pZ (u v S:Int) (w:World) (h:U64 u) (b:U64 v) (k:bits .and .u64 (bits .xor .u64 u v) 9223372036854775808=S) (f:0<=S) (c:S<=9223372036854775808) (hn:ah u=false) (d:ah v=false) (j:(szI u==0)=false) (hc:(aX u=true/\aX v=false)\/(aX u=false/\(szI v==0)=true)) :
  Calls Tryz.prog 144 #[.int .u64 u,.int .u64 v] w fun e a=>e=.returned (.int .u64 (S+9218868437227405312))/\a=w:=by
 rcases hc with⟨i,g⟩| ⟨i,g⟩
 all_goals
  go_enter Tryz.func144,Tryz.ntmps144
  go_wp2_with (first | (go_at_call_of 49 (Value.int IntKind.u64 u);refine (aj u _ h).mono ?_;rintro e a ⟨rfl,rfl⟩) | (go_at_call_of 49 (Value.int IntKind.u64 v);refine (aj v _ b).mono ?_;rintro e a ⟨rfl,rfl⟩) | (go_at_call_of 72 (Value.int IntKind.u64 u);refine (av u _ h).mono ?_;rintro e a ⟨rfl,rfl⟩) | (go_at_call_of 72 (Value.int IntKind.u64 v);refine (av v _ b).mono ?_;rintro e a ⟨rfl,rfl⟩) | (go_at_call_of 76 (Value.int IntKind.u64 u);refine (aH u _ h).mono ?_;rintro e a ⟨rfl,rfl⟩) | (go_at_call_of 76 (Value.int IntKind.u64 v);refine (aH v _ b).mono ?_;rintro e a ⟨rfl,rfl⟩))
  go_ret
  exact⟨rfl,rfl⟩
theorem jm (u v S:Int) (w:World) (h:U64 u) (b:U64 v) (i:bits .and .u64 (bits .xor .u64 u v) 9223372036854775808=S) (hn:ah u=false) (f:ah v=false) (hi:aX u=false) (g:(szI v==0)=false) (hc:(aX v=true/\(szI u==0)=true)\/(aX v=true/\(szI u==0)=false)\/(aX v=false/\(szI u==0)=true)) :
  Calls Tryz.prog 144 #[.int .u64 u,.int .u64 v] w fun e a=>e=.returned (.int .u64 S)/\a=w:=by
 rcases hc with⟨d,c⟩| ⟨d,c⟩| ⟨d,c⟩
 all_goals
  go_enter Tryz.func144,Tryz.ntmps144
  go_wp2_with (first | (go_at_call_of 49 (Value.int IntKind.u64 u);refine (aj u _ h).mono ?_;rintro e a ⟨rfl,rfl⟩) | (go_at_call_of 49 (Value.int IntKind.u64 v);refine (aj v _ b).mono ?_;rintro e a ⟨rfl,rfl⟩) | (go_at_call_of 72 (Value.int IntKind.u64 u);refine (av u _ h).mono ?_;rintro e a ⟨rfl,rfl⟩) | (go_at_call_of 72 (Value.int IntKind.u64 v);refine (av v _ b).mono ?_;rintro e a ⟨rfl,rfl⟩) | (go_at_call_of 76 (Value.int IntKind.u64 u);refine (aH u _ h).mono ?_;rintro e a ⟨rfl,rfl⟩) | (go_at_call_of 76 (Value.int IntKind.u64 v);refine (aH v _ b).mono ?_;rintro e a ⟨rfl,rfl⟩))
  go_ret
  exact⟨rfl,rfl⟩
theorem lG {r:Nat} (h:V r=0):r=0:=by
 have:=fD (r:=r) (s:=0);rw [bp] at this
 exact this.1 h
theorem MR (s:Bool) {r:Nat} (h:r<=9218868437227405312):U64 (gO s+(r:Int))/\szI (gO s+(r:Int))=r:=by
 unfold gO U64 szI;cases s<;>simp only [Bool.false_eq_true,if_true,if_false]<;>omega
theorem gQ (x:Nat):x % 9223372036854775808 % 9223372036854775808=x % 9223372036854775808:=Nat.mod_mod _ _
theorem IH {x y X Y k:Nat} {nx:Bool} {ex ey:Int} (q:OfR (x % 9223372036854775808) nx X ex) {u:Bool} (s:OfR (y % 9223372036854775808) u Y ey) (i:ag x) (g:ag y) (v:x % 9223372036854775808≠0) (p:y % 9223372036854775808≠0) (c:X≠0) (b:Y≠0) (A:max 0 (70 - (bl X:Int)+(bl Y:Int))=(k:Int)) (more:Bool) (a:decide (0<nd (X*2^k % Y))=more) :
  ∃ r:Nat,r<=9218868437227405312/\floatBits .quo .f64 x y=some (wrd (sB x^^sB y) r)/\U64 (bN nx (X*2^k / Y) (ex - k - ey) more)/\szI (bN nx (X*2^k / Y) (ex - k - ey) more)=r:=by
 obtain⟨n,l⟩:=q.mag c;obtain⟨m,j⟩:=s.mag b;rw [gQ] at n l m j
 have z:=eK c;have o:=eK b;have h:54+Y.log2 - X.log2<=k:=by omega
 have t:=jU i g v p n m l j h;have w:=jk c b (k:=k) (by omega)
 refine⟨nearR (aN X Y k) (ex - ey - 1 - (k:Int)),Nat.min_le_right _ _,t,?_⟩
 rw [kL nx more _ w.1];have e:2*(X*2^k / Y)+(if more=true then 1 else 0)=aN X Y k:=by
  unfold aN
  congr 1
  by_cases f:X*2^k % Y=0
  ·rw [f] at a
   rw [if_pos f,<- a];rfl
  ·have:=dt f;rw [if_neg f,<- a,if_pos (decide_eq_true (show 0<nd (X*2^k % Y) from this))]
 rw [e,show ex - (k:Int) - ey - 1=ex - ey - 1 - (k:Int) by omega]
 have d:nearR (aN X Y k) (ex - ey - 1 - (k:Int))<=9218868437227405312:=Nat.min_le_right _ _;generalize nearR (aN X Y k) (ex - ey - 1 - (k:Int))=r at d
 exact MR nx d
theorem Bb (x y r:Nat) (u v S R:Int) (w:World) (hu:Hid (u=(x:Int))) (hv:Hid (v=(y:Int))) (h:U64 u) (U:U64 v) (hx:ag x) (hy:ag y) (h0:Hid (x % 9223372036854775808≠0)) (h1:Hid (y % 9223372036854775808≠0)) (hS:bits .and .u64 (bits .xor .u64 u v) 9223372036854775808=S) (ba:0<=S) (bb:S<=9223372036854775808) (hr:Hid (floatBits .quo .f64 x y=some (wrd (sB x^^sB y) r))) (G:Hid (r<=9218868437227405312)) (hR:Hid (R=(r:Int))) (hn:ah u=false) (s:ah v=false) (hi:aX u=false) (C:aX v=false) (hz:(szI u==0)=false) (Z:(szI v==0)=false) :
  Calls Tryz.prog 144 #[.int .u64 u,.int .u64 v] w fun e a=>e=.returned (.int .u64 (S+R))/\Below w.heap.size w a:=by
 have bc:0<=R:=by rw [hR.out];omega
 have bh:R<=9218868437227405312:=by have:=G.out;rw [hR.out];omega
 have HX:=aa hx;have HY:=aa hy;have T:=bL hu.out;have V:=bL hv.out;obtain⟨Q,i⟩:∃ Q,szI u=Q:=⟨_,rfl⟩;obtain⟨P,o⟩:∃ P,szI v=P:=⟨_,rfl⟩;rw [i] at T hz
 rw [o] at V Z
 have ad:Hid (∀ w,Calls Tryz.prog 74 #[.int .u64 Q] w fun r a=>∃ neg v N e,r=.returned (.agg #[.bool neg,v,.int .i64 e])/\DN a v N/\OfR (x % 9223372036854775808) neg N e/\Below w.heap.size w a):=fun w=>eL (x % 9223372036854775808) Q w T (by rw [T];exact af (by omega)) (by unfold ag at *;rw [gQ];exact hx)
 have ai:Hid (∀ w,Calls Tryz.prog 74 #[.int .u64 P] w fun r a=>∃ neg v N e,r=.returned (.agg #[.bool neg,v,.int .i64 e])/\DN a v N/\OfR (y % 9223372036854775808) neg N e/\Below w.heap.size w a):=fun w=>eL (y % 9223372036854775808) P w V (by rw [V];exact af (by omega)) (by unfold ag at *;rw [gQ];exact hy)
 have al:=aa fun w=>iz u Q w h i
 have F:=aa fun w=>iz v P w U o
 have E:=aa (aj u · h);have L:=aa (aj v · U);have H:=aa (av u · h);have I:=aa (av v · U);rw [hn] at E
 rw [s] at L
 rw [hi] at H
 rw [C] at I
 clear hx hy hn s hi C h U i o T V
 go_enter Tryz.func144,Tryz.ntmps144
 go_wp2_with (first | (go_at_call_of 49 (Value.int IntKind.u64 u);refine (aG (E.out _)).mono ?_;rintro e a ⟨rfl,rfl⟩) | (go_at_call_of 49 (Value.int IntKind.u64 v);refine (aG (L.out _)).mono ?_;rintro e a ⟨rfl,rfl⟩) | (go_at_call_of 72 (Value.int IntKind.u64 u);refine (aG (H.out _)).mono ?_;rintro e a ⟨rfl,rfl⟩) | (go_at_call_of 72 (Value.int IntKind.u64 v);refine (aG (I.out _)).mono ?_;rintro e a ⟨rfl,rfl⟩) | (go_at_call_of 76 (Value.int IntKind.u64 u);refine (al.out _).mono ?_;rintro e a ⟨rfl,rfl⟩) | (go_at_call_of 76 (Value.int IntKind.u64 v);refine (F.out _).mono ?_;rintro e a ⟨rfl,rfl⟩))
 refine (ad.out _).mono ?_
 rintro r1 w1 ⟨nx,vx,X,ex,rfl,A,hX,D⟩;have j:=aa D;have O:=aa A;have b:=aa hX;clear D A hX
 go_wp2_with fail
 refine (F.out _).mono ?_
 rintro e a ⟨rfl,rfl⟩
 go_wp2_with fail
 refine (ai.out _).mono ?_
 rintro r1 w2 ⟨ny,vy,Y,ey,rfl,t,hY,m⟩;have l:=aa (j.out.trans (m.mono j.out.size));have g:=aa (O.out.below m);have M:=aa t;have c:=aa hY;clear m t hY j O;have p:Hid (X≠0):=fun e=>h0.out (by have:=b.out.val;rw [e,Nat.zero_mul] at this;unfold aV at this;rw [gQ] at this;exact lG this.symm)
 have q:Hid (Y≠0):=fun e=>h1.out (by have:=c.out.val;rw [e,Nat.zero_mul] at this;unfold aV at this;rw [gQ] at this;exact lG this.symm)
 obtain⟨k,hk⟩:∃ k:Nat,max 0 (70 - (bl X:Int)+(bl Y:Int))=(k:Int):=⟨(max 0 (70 - (bl X:Int)+(bl Y:Int))).toNat,by omega⟩
 obtain⟨B,n⟩:∃ B,decide (0<nd (X*2^k % Y))=B:=⟨_,rfl⟩;obtain⟨r',p1,p2,p3,W⟩:=IH b.out c.out HX.out HY.out h0.out h1.out p.out q.out hk B n;have K:r'=r:=by
  have e:=hr.out;rw [p2] at e
  have e2:wrd (sB x^^sB y) r'=wrd (sB x^^sB y) r:=Option.some.inj e;unfold wrd at e2
  split at e2<;>omega
 obtain⟨f,d⟩:∃ f,bN nx (X*2^k / Y) (ex - k - ey) B=f:=⟨_,rfl⟩;rw [d] at p3 W
 rw [K,<- hR.out] at W
 have z:=aa (jl nx ny B vx vy ex ey f X Y k _ w2 g.out M.out p.out q.out (by have:=dw b.out.lt;omega) (by have:=dw c.out.lt;omega) (by have:=b.out.lo;omega) (by have:=b.out.hi;omega) (by have:=c.out.lo;omega) (by have:=c.out.hi;omega) hk rfl n d)
 have ab:=aa fun w=>iz f R w p3 W
 clear hk n d p1 p2 p3 W K p q b c g M hr G
 go_wp2_with fail
 refine z.out.mono ?_
 rintro r1 w3 ⟨rfl,J⟩;have am:=aa (l.out.trans (J.mono l.out.size));clear J z l
 go_wp2_with fail
 refine (ab.out _).mono ?_
 rintro r1 a ⟨rfl,rfl⟩
 go_wp2_with fail
 go_ret
 exact⟨rfl,am.out⟩
theorem iD (x y:Nat) (u v:Int) (w:World) (o:Hid (u=(x:Int))) (n:Hid (v=(y:Int))) (h:U64 u) (k:U64 v) :
  Calls Tryz.prog 144 #[.int .u64 u,.int .u64 v] w fun e A=>e=.returned (.int .u64 (cn (floatBits .quo .f64 x y):Int))/\Below w.heap.size w A:=by
 have q:=vk h k;obtain⟨D,F⟩:=Dl (sgB u^^sgB v);have z:x<18446744073709551616:=by have:=h.2;rw [o.out] at this;omega
 have t:y<18446744073709551616:=by have:=k.2;rw [n.out] at this;omega
 have l:sgB u=sB x:=by rw [o.out];exact gh z
 have m:sgB v=sB y:=by rw [n.out];exact gh t
 have J:=bL o.out;have L:=bL n.out;have p:∀ b,decide (x % 9223372036854775808=0)=b->(szI u==0)=b:=fun b e=>by
  rw [<- e,J];by_cases c:x % 9223372036854775808=0
  ·rw [c];rfl
  ·rw [decide_eq_false c];simp;omega
 have s:∀ b,decide (y % 9223372036854775808=0)=b->(szI v==0)=b:=fun b e=>by
  rw [<- e,L];by_cases c:y % 9223372036854775808=0
  ·rw [c];rfl
  ·rw [decide_eq_false c];simp;omega
 have same:∀ {r:Int},(Calls Tryz.prog 144 #[.int .u64 u,.int .u64 v] w fun e A=>e=.returned (.int .u64 r)/\A=w)->(cn (floatBits .quo .f64 x y):Int)=r->Calls Tryz.prog 144 #[.int .u64 u,.int .u64 v] w fun e A=>e=.returned (.int .u64 (cn (floatBits .quo .f64 x y):Int))/\Below w.heap.size w A:=fun K e=>by
  rw [e];exact K.mono fun _ _ ⟨a,b⟩=>⟨a,by rw [b];exact Below.refl _ _⟩
 cases j:ah u with
 | true=>
  refine same (iC u v w h k (Or.inl j)) ?_
  rw [eD (by rw [<- o.out];exact j)];rfl
 | false=>
  cases f:ah v with
  | true=>
   refine same (iC u v w h k (Or.inr (Or.inl ⟨j,f⟩))) ?_
   rw [fu (by rw [<- n.out];exact f)];rfl
  | false=>
   cases hi:aX u with
   | true=>
    have G:=iv o.out hi;cases g:aX v with
    | true=>
     have E:=iv n.out g;refine same (iC u v w h k (Or.inr (Or.inr (Or.inl ⟨j,f,hi,g⟩)))) ?_
     rw [xE (Or.inl ⟨G,E⟩)];rfl
    | false=>
     have B:=fK n.out f g;refine same (pZ u v _ w h k q D F j f (p _ (by rw [G];rfl)) (Or.inl ⟨hi,g⟩)) ?_
     rw [Dm G B,ao,eE,l,m];rfl
   | false=>
    have C:=fK o.out j hi
    by_cases i:y % 9223372036854775808=0
    ·by_cases d:x % 9223372036854775808=0
     ·refine same (iC u v w h k (Or.inr (Or.inr (Or.inr ⟨j,f,hi,p _ (decide_eq_true d),s _ (decide_eq_true i)⟩)))) ?_
      rw [xE (Or.inr ⟨d,i⟩)];rfl
     ·refine same (pZ u v _ w h k q D F j f (p _ (decide_eq_false d)) (Or.inr ⟨hi,s _ (decide_eq_true i)⟩)) ?_
      rw [nL C d i,ao,eE,l,m];rfl
    ·cases g:aX v with
     | true=>
      have E:=iv n.out g;have e:(cn (floatBits .quo .f64 x y):Int)=gO (sgB u^^sgB v):=by rw [pX C E,ao,eE,l,m];simp
      by_cases d:x % 9223372036854775808=0
      ·exact same (jm u v _ w h k q j f hi (s _ (decide_eq_false i)) (Or.inl ⟨g,p _ (decide_eq_true d)⟩)) e
      ·exact same (jm u v _ w h k q j f hi (s _ (decide_eq_false i)) (Or.inr (Or.inl ⟨g,p _ (decide_eq_false d)⟩))) e
     | false=>
      have B:=fK n.out f g
      by_cases d:x % 9223372036854775808=0
      ·refine same (jm u v _ w h k q j f hi (s _ (decide_eq_false i)) (Or.inr (Or.inr ⟨g,p _ (decide_eq_true d)⟩))) ?_
       rw [pY d B i,ao,eE,l,m];simp
      ·obtain⟨r,I,H⟩:∃ r,floatBits .quo .f64 x y=some (wrd (sB x^^sB y) r)/\r<=9218868437227405312:=⟨_,jU C B d i rfl rfl rfl rfl (Nat.le_refl _),Nat.min_le_right _ _⟩;have e:(cn (floatBits .quo .f64 x y):Int)=gO (sgB u^^sgB v)+(r:Int):=by rw [I,ao,eE,l,m]
       rw [e];exact Bb x y r u v _ _ w o n h k C B d i q D F I H rfl j f hi g (p _ (decide_eq_false d)) (s _ (decide_eq_false i))
end Go.Proofs.YtfdddijdjpijbaaGreat
