/-  -/
import Derived.Test.YtfdddijdjpijbaaGreatHax
set_option maxHeartbeats 1600000
set_option maxRecDepth 10000
namespace Go.Proofs.YtfdddijdjpijbaaGreat
open Go.RowKit
theorem uJ {c:Nat} (h:c<9223372036854775808):c^^^9223372036854775808=9223372036854775808+c:=by
 rw [show (9223372036854775808:Nat)=2^63 from rfl] at *
 apply Nat.eq_of_testBit_eq;intro i;rw [Nat.testBit_xor,Nat.testBit_two_pow]
 by_cases a:i=63
 ·subst a;rw [Nat.testBit_two_pow_add_eq];simp
 ·by_cases f:i<63
  ·have e:decide (63=i)=false:=by rw [decide_eq_false_iff_not];omega
   rw [Nat.testBit_two_pow_add_gt f,e,Bool.xor_false]
  ·have b:c.testBit i=false:=Nat.testBit_lt_two_pow (Nat.lt_of_lt_of_le h (Nat.pow_le_pow_right (by decide) (by omega)))
   have d:(2^63+c).testBit i=false:=Nat.testBit_lt_two_pow (Nat.lt_of_lt_of_le (show 2^63+c<2^64 by omega) (Nat.pow_le_pow_right (by decide) (by omega)))
   have e:decide (63=i)=false:=by rw [decide_eq_false_iff_not];omega
   rw [b,d,e];rfl
def flipN (x:Nat):Nat:=if x<9223372036854775808 then 9223372036854775808+x else x - 9223372036854775808
theorem sQ {b:Nat} (h:b<18446744073709551616):b^^^9223372036854775808=flipN b:=by
 unfold flipN
 by_cases a:b<9223372036854775808
 ·rw [if_pos a,uJ a]
 ·rw [if_neg a];obtain⟨c,rfl⟩:∃ c,b=9223372036854775808+c:=⟨b - 9223372036854775808,by omega⟩
  rw [<- uJ (c:=c) (by omega),Nat.xor_assoc,Nat.xor_self,Nat.xor_zero]
  have:=uJ (c:=c) (by omega)
  omega
theorem cz {x:Nat} (h:x<18446744073709551616):flipN x<18446744073709551616/\flipN x % 9223372036854775808=x % 9223372036854775808/\(flipN x / 9223372036854775808 % 2==1)=!(x / 9223372036854775808 % 2==1):=by
 unfold flipN
 by_cases a:x<9223372036854775808
 ·rw [if_pos a];refine⟨by omega,by omega,?_⟩
  rw [show (9223372036854775808+x) / 9223372036854775808=1 by omega,show x / 9223372036854775808=0 by omega];rfl
 ·rw [if_neg a];refine⟨by omega,by omega,?_⟩
  rw [show (x - 9223372036854775808) / 9223372036854775808=0 by omega,show x / 9223372036854775808=1 by omega];rfl
theorem xf {x y:Nat} (h:y<18446744073709551616) (hn:ah (y:Int)=false):floatBits .add .f64 x (flipN y)=floatBits .sub .f64 x y:=by
 obtain⟨_,a,d⟩:=cz h;have f:=eN hn;have e:Ieee.double.read (flipN y)=(Ieee.double.read y).opposite:=by
  by_cases c:y % 9223372036854775808<9218868437227405312
  ·rw [ay (b:=flipN y) (by rw [a];exact c),ay c,a,d];rfl
  ·rw [aS (b:=flipN y) (by rw [a];omega),aS (b:=y) (by omega),d];rfl
 show ((Ieee.double.read x).sum (Ieee.double.read (flipN y))).map Ieee.double.write=((Ieee.double.read x).sum (Ieee.double.read y).opposite).map Ieee.double.write
 rw [e]
theorem fB (y:Nat) (v z:Int) (w:World) (a:Hid (v=(y:Int))) (h:U64 v) (d:Hid (z=(flipN y:Int))) :
  Calls Tryz.prog 34 #[.int .u64 v] w fun e c=>e=.returned (.int .u64 z)/\w=c:=by
 have f:bits .xor .u64 v 9223372036854775808=z:=by
  have b:y<18446744073709551616:=by have:=h.2;rw [a.out] at this;omega
  have:=bits_xor_u64_nat y 9223372036854775808 b (by decide)
  rw [show ((9223372036854775808:Nat):Int)=9223372036854775808 from rfl,sQ b] at this
  rw [a.out,d.out];exact this
 go_enter Tryz.func34,Tryz.ntmps34
 go_wp2
 go_ret
 exact⟨rfl,rfl⟩
theorem kF (x y:Nat) (u v:Int) (w:World) (o:Hid (u=(x:Int))) (i:Hid (v=(y:Int))) (h:U64 u) (g:U64 v) :
  Calls Tryz.prog 35 #[.int .u64 u,.int .u64 v] w fun e d=>e=.returned (.int .u64 (cn (floatBits .sub .f64 x y):Int))/\Below w.heap.size w d:=by
 have c:y<18446744073709551616:=by have:=g.2;rw [i.out] at this;omega
 obtain⟨b,a⟩:∃ b:Int,(cn (floatBits .sub .f64 x y):Int)=b:=⟨_,rfl⟩;rw [a];have k:=hideS (aj v · g);cases f:ah v with
 | true=>
  rw [f] at k
  have n:Hid ((9221120237041090561:Int)=b):=by show _=_;rw [<- a,eR (by rw [<- i.out];exact f)];rfl
  clear h g f a
  go_enter Tryz.func35,Tryz.ntmps35
  go_wp2_with fail
  refine (turned (k.out _)).mono ?_
  rintro e d ⟨rfl,rfl⟩
  go_wp2_with fail
  go_ret
  exact⟨bu n.out,Below.refl _ _⟩
 | false=>
  rw [f] at k
  obtain⟨z,j⟩:∃ z:Int,z=(flipN y:Int):=⟨_,rfl⟩;have m:=hideS fun w=>fB y v z w i g j
  have p:Hid (∀ w,Calls Tryz.prog 50 #[.int .u64 u,.int .u64 z] w fun e d=>e=.returned (.int .u64 b)/\Below w.heap.size w d):=fun w=>by
   have:=fA x (flipN y) u z w o j h (by rw [j];exact ag (cz c).1)
   rw [xf c (by rw [<- i.out];exact f),a] at this;exact this
  clear h g f a j
  go_enter Tryz.func35,Tryz.ntmps35
  go_wp2_with fail
  refine (turned (k.out _)).mono ?_
  rintro e d ⟨rfl,rfl⟩
  go_wp2_with fail
  refine (m.out _).mono ?_
  rintro e d ⟨rfl,rfl⟩
  go_wp2_with fail
  refine (p.out _).mono ?_
  rintro e r ⟨rfl,l⟩;have q:=hideS l;clear l
  go_wp2_with fail
  go_ret
  exact⟨rfl,q.out⟩
theorem Hw (n:Int):bJ (decide (n<0)) n.natAbs 0 false=(fi n:Int):=by
 unfold fi aJ
 by_cases b:n=0
 ·subst b;rw [if_pos rfl];rfl
 ·rw [if_neg b,fw _ _ (by omega)]
  by_cases a:n<0
  ·rw [if_pos a,decide_eq_true a];simp only [if_true];omega
  ·rw [if_neg a,decide_eq_false a];simp
theorem cV (n:Int) (w:World) (t: -9223372036854775808<=n) (u:n<=9223372036854775807) :
  Calls Tryz.prog 101 #[.int .i64 n] w fun e m=>e=.returned (.int .u64 (fi n:Int))/\Below w.heap.size w m:=by
 obtain⟨i,a⟩:∃ i:Int,(fi n:Int)=i:=⟨_,rfl⟩;rw [a];rw [<- Hw] at a
 obtain⟨o,b⟩:∃ o,decide (n<0)=o:=⟨_,rfl⟩;have z:Hid (∀ w,Calls Tryz.prog 62 #[.int .i64 n] w fun x m=>∃ v,x=.returned (.agg #[.bool o,v,.int .i64 0])/\DN m v n.natAbs/\Below w.heap.size w m):=fun w=>by rw [<- b];exact jI n w t u
 rw [b] at a
 have h:=hideS a;have q:nd n.natAbs<=1000000:=Nat.le_trans (bL (k:=2) (by omega)) (by omega)
 clear b a
 go_enter Tryz.func101,Tryz.ntmps101
 go_wp2_with fail
 refine (z.out _).mono ?_
 rintro x y ⟨B,rfl,d,g⟩;obtain⟨p,l,c,rfl⟩:=d.shape;have s:=hideS g;have j:=hideS (gv o _ 0 n.natAbs y d q (by omega) (by omega))
 rw [h.out] at j
 clear d g
 go_wp2_with fail
 refine j.out.mono ?_
 rintro x A ⟨rfl,f⟩;have r:=hideS (s.out.trans (f.mono s.out.size));clear f
 go_wp2_with fail
 go_ret
 exact⟨rfl,r.out⟩
theorem gC (u v:Int) (b:Bool) (w:World) (h:U64 u) (i:U64 v) (hn:ah u=false) (d:ah v=false) (k:decide (ae u<ae v)=b) :
  Calls Tryz.prog 60 #[.int .u64 u,.int .u64 v] w fun e f=>e=.returned (.bool b)/\w=f:=by
 have g:=hideS fun w=>turned (fM u w h)
 have j:=hideS fun w=>turned (fM v w i)
 rw [hn] at g
 rw [d] at j
 generalize ae u=a at *
 generalize ae v=c at *
 clear hn d h i
 go_enter Tryz.func60,Tryz.ntmps60
 go_wp2_with fail
 refine (g.out _).mono ?_
 rintro e f ⟨rfl,rfl⟩
 go_wp2_with fail
 refine (j.out _).mono ?_
 rintro e f ⟨rfl,rfl⟩
 go_wp2_with fail
 go_ret
 exact⟨rfl,rfl⟩
theorem lA {S k F E:Int} (f:0<E) (d:k*E<=S) (h:S<(k+1)*E) (e:F*E<=S) (g:S<(F+1)*E):k=F:=by
 have a:k<F+1:=by
  by_cases c:k<F+1
  ·exact c
  ·have:=Int.mul_le_mul_of_nonneg_right (show F+1<=k by omega) (show 0<=E by omega);omega
 have b:F<k+1:=by
  by_cases c:F<k+1
  ·exact c
  ·have:=Int.mul_le_mul_of_nonneg_right (show k+1<=F by omega) (show 0<=E by omega);omega
 omega
def uK (neg:Bool) (q:Nat) (a:Bool):Int:=if neg then (if a then -(q:Int) - 1 else -(q:Int)) else (q:Int)
theorem uL {neg:Bool} {N P:Nat} (b:0<P):uK neg (N / P) (decide (N % P≠0))*(P:Int)<=sg neg N/\sg neg N<(uK neg (N / P) (decide (N % P≠0))+1)*(P:Int):=by
 have c:=Nat.div_add_mod N P;have e:N % P<P:=Nat.mod_lt _ b;have d:((P*(N / P):Nat):Int)=(N / P:Nat)*(P:Int):=by rw [Int.natCast_mul,Int.mul_comm]
 generalize N / P=q at *
 generalize N % P=r at *
 generalize P*q=t at *
 unfold uK sg;cases neg
 ·simp only [Bool.false_eq_true,if_false];rw [Int.add_mul,Int.one_mul];omega
 ·simp only [if_true]
  by_cases a:r=0
  ·rw [show decide (r≠0)=false by simpa using a]
   simp only [Bool.false_eq_true,if_false];rw [Int.add_mul,Int.one_mul,Int.neg_mul];omega
  ·rw [show decide (r≠0)=true by simpa using a]
   simp only [if_true];rw [Int.add_mul,Int.one_mul,Int.sub_mul,Int.one_mul,Int.neg_mul];omega
theorem xg (t:Nat) (v k:Int) (K:Nat) (w:World) (hv:Hid (v=(t:Int))) (h:U64 v) (ht:af t) (hK:K=1074) (F:k*((2^K:Nat):Int)<=vI t) (z:vI t<(k+1)*((2^K:Nat):Int)) (k1: -2000<=k) (k2:k<=2000) :
  Calls Tryz.prog 102 #[.int .u64 v] w fun e W=>e=.returned (.int .i64 k)/\Below w.heap.size w W:=by
 have HO:=hideS fun w=>eC t v w hv h ht
 have HF:Hid (∀ neg N e,OfR t neg N e->(N=0->k=0)/\(N≠0->∃ P:Nat,e= -(P:Int)/\1<=P/\P<=1074/\k=uK neg (N / 2^P) (decide (N % 2^P≠0)))):=fun neg N e M=>by
  have hp:(0:Int)<((2^K:Nat):Int):=by have:=Nat.two_pow_pos K;omega
  have f:vI t=sg neg N*((2^(e+1074).toNat:Nat):Int):=by
   rw [wX,<- M.val,ip]
   by_cases g:N=0
   ·rw [g,aT,aT]
   ·rw [M.sgn g]
  constructor
  ·intro g;rw [g,aT,Int.zero_mul] at f
   rw [f] at F z
   exact lA hp F z (by rw [Int.zero_mul];exact Int.le_refl _) (by rw [Int.zero_add,Int.one_mul];exact hp)
  ·intro g;have bi:=M.lo;have ak:e<0:=by
    obtain⟨m1,m2⟩:=M.mag g
    by_cases c:e<0
    ·exact c
    ·exfalso
     have ac:1074<=pl (t % 9223372036854775808):=by omega
     have Y:4503599627370496<=N:=by rw [m1];exact CA (by unfold pl at ac;omega)
     have hb:(vI t).natAbs=N*2^(e+1074).toNat:=by rw [f,Int.natAbs_mul,bF,Int.natAbs_natCast]
     have U:2^K<=2^(e+1074).toNat:=Nat.pow_le_pow_right (by decide) (by omega)
     have h5:4503599627370496*2^K<=N*2^(e+1074).toNat:=Nat.mul_le_mul Y U;have h6:=Int.mul_le_mul_of_nonneg_right k1 (show 0<=((2^K:Nat):Int) by omega)
     have h7:=Int.mul_le_mul_of_nonneg_right (show k+1<=2001 by omega) (show 0<=((2^K:Nat):Int) by omega)
     generalize N*2^(e+1074).toNat=a at *
     generalize 2^K=b at *
     generalize (k+1)*(b:Int)=c1 at *
     generalize k*(b:Int)=c2 at *
     omega
   refine⟨(-e).toNat,by omega,by omega,by omega,?_⟩
   have ab:(2^K:Nat)=2^(-e).toNat*2^(e+1074).toNat:=by rw [<- Nat.pow_add];congr 1;omega
   have hq:(0:Int)<((2^(e+1074).toNat:Nat):Int):=by have:=Nat.two_pow_pos (e+1074).toNat;omega
   have hP:0<2^(-e).toNat:=Nat.two_pow_pos _;rw [ab,Int.natCast_mul,<- Int.mul_assoc,f] at F z
   obtain⟨f1,f2⟩:=uL (neg:=neg) (N:=N) hP;exact lA (by omega) (Int.le_of_mul_le_mul_right F hq) (Int.lt_of_mul_lt_mul_right z (by omega)) f1 f2
 clear h ht F z
 go_enter Tryz.func102,Tryz.ntmps102
 go_wp2_with fail
 refine (HO.out _).mono ?_
 rintro r O ⟨neg,vx,N,e,rfl,n,R,o⟩;obtain⟨p,l,c,rfl⟩:=n.shape;obtain⟨V,g2⟩:=HF.out neg N e R;have m:=hideS (aE O neg (.slice p l c) e);have s:=hideS (n.below m.out);have i:=hideS (o.trans (m.out.mono o.size));have C:=hideS R.lt;clear R n o HO HF
 go_wp2_with fail
 by_cases g:N=0
 ·have J:=V g;clear V g2;refine (aZ _ _ _ N true _ s.out (decide_eq_true g)).mono ?_
  rintro r w2 ⟨rfl,d⟩;have j:=hideS (i.out.trans (d.mono i.out.size));have HK:=hideS J;clear d J g
  go_wp2_with fail
  go_ret
  exact⟨bu HK.out.symm,j.out⟩
 ·obtain⟨P,hP,S,X,J⟩:=g2 g;clear V g2;have ai:N / 2^P<9007199254740992:=Nat.lt_of_le_of_lt (Nat.div_le_self _ _) C.out;refine (aZ _ _ _ N false _ s.out (decide_eq_false g)).mono ?_
  rintro r w2 ⟨rfl,d⟩;obtain⟨c0,c1,c2⟩:=jH d;have Z:O.heap.size<w2.heap.size:=by have:=d.size;simp at this;omega
  have j:=hideS (i.out.trans (d.mono i.out.size));have he:e<0:=by omega
  have bh: -1074<=e:=by omega
  have B:Hid (-e=(P:Int)):=by show _=_;omega
  have D:=hideS (gY (.slice p l c) N P (-e) w2 (s.out.below d) (by have:=dr C.out;omega) B)
  have h3:=gW (K:=N / 2^P) (by omega)
  have b0:=bw (N / 2^P) 0;have b1:dgt (N / 2^P) 1<=2097152:=by omega
  obtain⟨x,E⟩:∃ x:Int,(dgt (N / 2^P) 0:Int)=x:=⟨_,rfl⟩;obtain⟨y,I⟩:∃ y:Int,(dgt (N / 2^P) 1:Int)=y:=⟨_,rfl⟩;obtain⟨Q,hQ⟩:∃ Q:Int,((N / 2^P:Nat):Int)=Q:=⟨_,rfl⟩;have al:x+y*4294967296=Q:=by omega
  have d0:0<=x/\x<4294967296:=by omega
  have d1:0<=y/\y<=2097152:=by omega
  have T:0<=Q/\Q<9007199254740992:=by omega
  have HK:Hid (k=if neg then (if bP N P then -Q - 1 else -Q) else Q):=by
   show _=_
   rw [<- hQ];exact J
  have A:=hideS E;have H:=hideS I;clear d J g hP S X h3 b0 b1 E I hQ ai B;obtain⟨bc,am⟩:=d0;obtain⟨bb,ba⟩:=d1;obtain⟨as,bk⟩:=T
  go_wp2_with fail
  refine D.out.mono ?_
  rintro r w3 ⟨v3,rfl,G,q⟩;have ad:=hideS (j.out.trans (q.mono j.out.size));have e0:w3.cell? ⟨O.heap.size,0,none⟩=some (.bool neg):=(q.cell (p:=⟨O.heap.size,0,none⟩) Z).trans c0;have u:=hideS G;clear q G c0 c1 c2 D;generalize bP N P=L at HK ⊢
  go_wp2_with fail
  refine (turned (fq v3 (N / 2^P) 0 0 x _ u.out rfl A)).mono ?_
  rintro r W ⟨rfl,rfl⟩
  go_wp2_with fail
  refine (turned (fq v3 (N / 2^P) 1 1 y _ u.out rfl H)).mono ?_
  rintro r W ⟨rfl,rfl⟩;clear u A H;cases neg<;>cases L
  all_goals
   go_wp2_with fail
   go_ret
   exact⟨bu HK.out.symm,ad.out⟩
end Go.Proofs.YtfdddijdjpijbaaGreat
namespace Go.Proofs.YtfdddijdjpijbaaGreat
theorem lC {M s:Nat} {p:Int} (k:M≠0) (h:s+54<=M.log2):nearR (bK M s false) (s+p)=nearR M p:=by
 obtain⟨b,_⟩:=cT false (show s<=M.log2 by omega) k
 have c:an (bK M s false) (s+p)=an M p:=by
  unfold an;rw [b];congr 1;omega
 have j:(s:Int)+p+2<=an M p:=by unfold an;omega
 unfold nearR;rw [c];obtain⟨d,l⟩:∃ d:Nat,an M p=s+p+d:=⟨(an M p - (s+p)).toNat,by omega⟩
 have g:((s:Int)+p - an M p).toNat=0:=by omega
 have e:(p - an M p).toNat=0:=by omega
 have i:(an M p - (s+p)).toNat=d:=by omega
 have f:(an M p - p).toNat=d+s:=by omega
 rw [g,e,i,f,Nat.pow_zero,Nat.mul_one,Nat.mul_one];have a:bK M s false=(if M % 2^s=0 then M / 2^s else (if M / 2^s % 2=1 then M / 2^s else M / 2^s+1)):=by unfold bK;simp only [and_true]
 rw [a,kz (by omega)]
def aP (X Y k:Nat):Nat:=2*(X*2^k / Y)+(if X*2^k % Y=0 then 0 else 1)
theorem Ia {q e T:Nat} {t:Nat} (f:T=2^t) (g:e<2*T):bK (2*q*T+e) t false=2*q+(if e=0 then 0 else 1):=by
 have a:0<T:=by rw [f];exact Nat.two_pow_pos t
 unfold bK;rw [<- f];have k:(2*q*T+e) / T=2*q+e / T:=by rw [Nat.add_comm,Nat.add_mul_div_right _ _ a,Nat.add_comm]
 have i:(2*q*T+e) % T=e % T:=by rw [Nat.add_comm,Nat.add_mul_mod_self_right]
 rw [k,i]
 by_cases c:e=0
 ·rw [c,Nat.zero_mod,Nat.zero_div,if_pos ⟨rfl,rfl⟩,if_pos rfl]
 ·rw [if_neg c]
  by_cases d:e<T
  ·rw [Nat.mod_eq_of_lt d,Nat.div_eq_of_lt d,if_neg (fun h=>c h.1),if_neg (by omega)]
  ·have j:e / T=1:=by
    have:=Nat.div_lt_iff_lt_mul a (x:=e) (y:=2);have b:e / T<2:=this.2 g;have l:1<=e / T:=(Nat.one_le_div_iff a).2 (by omega)
    omega
   rw [j]
   by_cases b:e % T=0/\(false:Bool)=false
   ·rw [if_pos b]
   ·rw [if_neg b,if_pos (by omega)]
theorem sR {X Y:Nat} (k t:Nat) (b:0<Y):bK (aP X Y (k+t)) t false=aP X Y k:=by
 obtain⟨T,g⟩:∃ T,T=2^t:=⟨_,rfl⟩;have n:0<T:=by rw [g];exact Nat.two_pow_pos t
 unfold aP;rw [Nat.pow_add,<- Nat.mul_assoc,<- g];generalize X*2^k=A;have z:=Nat.div_add_mod A Y;have y:A % Y<Y:=Nat.mod_lt _ b;generalize A / Y=q at *
 generalize A % Y=r at *
 have a:A*T=r*T+Y*(q*T):=by rw [<- z,Nat.add_mul,Nat.mul_assoc,Nat.add_comm]
 have v:A*T / Y=q*T+r*T / Y:=by rw [a,Nat.add_mul_div_left _ _ b,Nat.add_comm]
 have o:A*T % Y=r*T % Y:=by rw [a,Nat.add_mul_mod_self_left]
 rw [v,o];have B:r*T / Y<T:=by rw [Nat.div_lt_iff_lt_mul b,Nat.mul_comm T];exact Nat.mul_lt_mul_of_pos_right y n
 have m:=Nat.div_add_mod (r*T) Y;have i:r=0↔r*T=0:=by
  constructor
  ·intro h;rw [h,Nat.zero_mul]
  ·intro h;rcases Nat.mul_eq_zero.1 h with h | h<;>omega
 have p:2*(q*T+r*T / Y)+(if r*T % Y=0 then 0 else 1)=2*q*T+(2*(r*T / Y)+(if r*T % Y=0 then 0 else 1)):=by rw [Nat.mul_add,<- Nat.mul_assoc,Nat.add_assoc]
 rw [p];generalize r*T / Y=c at *
 generalize r*T % Y=s at *
 generalize r*T=j at *
 rw [Ia g (by split<;>omega)]
 congr 1
 by_cases d:r=0
 ·have x:j=0:=i.1 d;have w:s=0:=by omega
  have u:c=0:=by
   by_cases f:c=0
   ·exact f
   ·have:=Nat.mul_pos b (show 0<c by omega);omega
  rw [if_pos d,if_pos (by rw [w,u];rfl)]
 ·have x:j≠0:=fun h=>d (i.2 h)
  rw [if_neg d,if_neg];intro h
  by_cases l:s=0
  ·rw [if_pos l] at h
   have e:c=0:=by omega
   rw [e,Nat.mul_zero] at m;omega
  ·rw [if_neg l] at h;omega
theorem jc {X Y a c:Nat} {p:Int} (i:0<Y) (r:a<=c) (f:54<=(aP X Y a).log2):nearR (aP X Y a) (p - a)=nearR (aP X Y c) (p - c):=by
 obtain⟨t,rfl⟩:∃ t,c=a+t:=⟨c - a,by omega⟩
 have d:=sR (X:=X) a t i;obtain⟨M,k⟩:∃ M,aP X Y (a+t)=M:=⟨_,rfl⟩;rw [k] at d ⊢
 have e:aP X Y a≠0:=by intro h;rw [h] at f;exact absurd f (by decide)
 have q:=Nat.log2_self_le e;have o:(2:Nat)^54<=2^(aP X Y a).log2:=Nat.pow_le_pow_right (by decide) f
 have j:bK M t false<=M / 2^t+1:=by unfold bK;split;omega;split<;>omega
 have n:1<=M / 2^t:=by rw [d] at j;omega
 have g:2^t<=M:=(Nat.one_le_div_iff (Nat.two_pow_pos _)).1 n;have b:M≠0:=by have:=Nat.two_pow_pos t;omega
 have m:t<=M.log2:=(Nat.le_log2 b).2 g;have l:=(cT false m b).1;rw [d] at l
 have:=lC (M:=M) (s:=t) (p:=p - ((a+t:Nat):Int)) b (by omega)
 rw [d,show (t:Int)+(p - ((a+t:Nat):Int))=p - a by omega] at this
 exact this
theorem jd {X Y k:Nat} (a:X≠0) (g:Y≠0) (f:54+Y.log2<=X.log2+k):9007199254740992<=X*2^k / Y/\54<=(aP X Y k).log2:=by
 have b:=Nat.log2_self_le a;have e:Y<2^(Y.log2+1):=Nat.lt_log2_self;have c:9007199254740992<=X*2^k / Y:=by
  rw [Nat.le_div_iff_mul_le (by omega)]
  refine Nat.le_trans (Nat.mul_le_mul_left _ (Nat.le_of_lt e)) ?_
  refine Nat.le_trans ?_ (Nat.mul_le_mul_right _ b)
  rw [show (9007199254740992:Nat)=2^53 from rfl,<- Nat.pow_add,<- Nat.pow_add]
  exact Nat.pow_le_pow_right (by decide) (by omega)
 refine⟨c,?_⟩
 have d:2^54<=aP X Y k:=by unfold aP;omega
 exact (Nat.le_log2 (by have:=Nat.two_pow_pos 54;omega)).2 d
theorem Az {N d:Nat} (m:1<=d):nu N d true=rne (2*N+1) (d+1):=by
 unfold nu rne;have l:=Nat.two_pow_pos d;have g:(2*N+1) / 2^(d+1)=N / 2^d:=by
  rw [Nat.pow_succ,Nat.mul_comm (2^d) 2,<- Nat.div_div_eq_div_mul];congr 1;omega
 have h:(2*N+1) % 2^(d+1)=2*(N % 2^d)+1:=by
  have a:=Nat.div_add_mod (2*N+1) (2^(d+1));have b:=Nat.div_add_mod N (2^d);rw [g,Nat.pow_succ] at a
  have c:2^d*2*(N / 2^d)=2*(2^d*(N / 2^d)):=by rw [Nat.mul_comm (2^d) 2,Nat.mul_assoc]
  rw [Nat.pow_succ];omega
 rw [g,h]
 congr 1
 obtain⟨k,rfl⟩:∃ k,d=k+1:=⟨d - 1,by omega⟩
 rw [Nat.add_sub_cancel];have e:N % 2^(k+1)=N % 2^k+2^k*(N / 2^k % 2):=by rw [Nat.pow_succ,Nat.mod_mul]
 have j:=Nat.two_pow_pos k;have i:N % 2^k<2^k:=Nat.mod_lt _ j;rw [e,Nat.pow_succ,Nat.pow_succ];rcases (show N / 2^k % 2=0\/N / 2^k % 2=1 by omega) with f | f
 ·rw [f,if_neg (by omega),if_neg (by omega)]
 ·rw [f,Nat.mul_one,if_pos ⟨rfl,Or.inr (Or.inl rfl)⟩,if_pos (Or.inl (by omega))]
theorem Ib (neg:Bool) {a b:Nat} (h:min a 9218868437227405312=b):cw neg (a:Int)=cw neg (b:Int):=by
 unfold cw;cases neg<;>simp only [Bool.false_eq_true,if_true,if_false]<;>omega
theorem Mh (neg:Bool) {r:Nat} (h:r<=9218868437227405312):cw neg (r:Int)=gB neg+(r:Int):=by
 unfold cw gB;cases neg<;>simp only [Bool.false_eq_true,if_true,if_false]<;>omega
theorem kG (neg more:Bool) {N:Nat} (e:Int) (n:9007199254740992<=N):bJ neg N e more=gB neg+(nearR (2*N+(if more then 1 else 0)) (e - 1):Int):=by
 have d:N≠0:=by omega
 cases more with
 | false=>
  have m:(2*N+(if (false:Bool)=true then 1 else 0))=2*N:=rfl
  rw [fw neg e d,m];have:=bf d 1 e;rw [Nat.pow_one,Nat.mul_comm] at this
  rw [show e - 1=e - ((1:Nat):Int) from rfl,this];rfl
 | true=>
  rw [if_pos rfl];have a:(2*N+1).log2=N.log2+1:=by
   rw [Nat.log2_def,if_pos (by omega),show (2*N+1) / 2=N by omega]
  have h:53<=N.log2:=(Nat.le_log2 d).2 (by omega)
  have c:=eA d;have i:an (2*N+1) (e - 1)=an N e:=by unfold an;rw [a];congr 1;omega
  have j:aL N e=an N e:=by unfold aL an;rw [c];omega
  have l:e<an N e:=by unfold an;omega
  have f:(if jZ N e=true then if 0<e\/0<(bl N:Int)+e then cw neg 9218868437227405312 else cw neg 0 else cw neg (rnd53 N e true))=cw neg (nearR (2*N+1) (e - 1)):=by
   cases b:jZ N e
   ·simp only [Bool.false_eq_true,if_false];have k:min (rnd53 N e true) 9218868437227405312=nearR (2*N+1) (e - 1):=by
     unfold rnd53 kv nearR;rw [i,j,if_neg (by omega),Az (by omega),show (e - 1 - an N e).toNat=0 by omega,Nat.pow_zero,Nat.mul_one,show (an N e - (e - 1)).toNat=(an N e - e).toNat+1 by omega]
    exact Ib neg k
   ·simp only [if_true];unfold jZ at b
    rw [Bool.or_eq_true,decide_eq_true_eq,decide_eq_true_eq] at b
    rcases b with b | b
    ·rw [if_pos (Or.inr (by omega)),jC (by omega) (by omega)];rfl
    ·have g:bl (2*N+1)=bl N+1:=by rw [eA (by omega),a,c]
     rw [if_neg (by omega),pg (by omega) (by rw [g];omega)];rfl
  unfold bJ;rw [if_neg d,f];exact Mh neg (Nat.min_le_right _ _)
end Go.Proofs.YtfdddijdjpijbaaGreat
namespace Go.Proofs.YtfdddijdjpijbaaGreat
open Go.RowKit
theorem Mi (A i j r:Nat) (b:i=32*j+r) (c:r<32):dgt A j / 2^r % 2=A / 2^i % 2:=by
 unfold dgt;have e:A / 2^i=A / 2^(32*j) / 2^r:=by rw [Nat.div_div_eq_div_mul,<- Nat.pow_add,<- b]
 rw [e];generalize A / 2^(32*j)=M;have a:(4294967296:Nat)=2^r*2^(32 - r):=by rw [<- Nat.pow_add,show r+(32 - r)=32 by omega]
 rw [a,Nat.mod_mul_right_div_self];refine Nat.mod_mod_of_dvd _ ?_
 rw [show 32 - r=(31 - r)+1 by omega,Nat.pow_succ]
 exact Nat.dvd_mul_left 2 _
theorem Mj {A B i R b:Nat} (f:0<B) (h:R=A / 2^(i+1) % B) (m:b=A / 2^i % 2) :
  (B<=R*2+b->A / 2^i % B=R*2+b - B/\A / 2^i / B*2^i=A / 2^(i+1) / B*2^(i+1)+2^i)/\
  (R*2+b<B->A / 2^i % B=R*2+b/\A / 2^i / B*2^i=A / 2^(i+1) / B*2^(i+1)):=by
 have e:A / 2^(i+1)=A / 2^i / 2:=by rw [Nat.div_div_eq_div_mul,<- Nat.pow_succ]
 rw [e] at h ⊢
 generalize A / 2^i=M at *
 have j:=Nat.div_add_mod (M / 2) B;have k:M / 2 % B<B:=Nat.mod_lt _ f;rw [<- h] at j k
 generalize M / 2 / B=q at *
 have l:q*2^(i+1)=2*q*2^i:=by rw [Nat.pow_succ,<- Nat.mul_assoc,Nat.mul_comm,<- Nat.mul_assoc]
 rw [l];refine⟨fun c=>?_,fun c=>?_⟩
 ·have a:M=(R*2+b - B)+B*(2*q+1):=by
   have:B*(2*q+1)=2*(B*q)+B:=by rw [Nat.mul_add,Nat.mul_one,Nat.mul_left_comm]
   omega
  have g:M % B=R*2+b - B:=by rw [a,Nat.add_mul_mod_self_left,Nat.mod_eq_of_lt (by omega)]
  have d:M / B=2*q+1:=by rw [a,Nat.add_mul_div_left _ _ f,Nat.div_eq_of_lt (by omega),Nat.zero_add]
  rw [g,d,Nat.add_mul,Nat.one_mul];exact⟨rfl,rfl⟩
 ·have a:M=(R*2+b)+B*(2*q):=by
   have:B*(2*q)=2*(B*q):=by rw [Nat.mul_left_comm]
   omega
  have g:M % B=R*2+b:=by rw [a,Nat.add_mul_mod_self_left,Nat.mod_eq_of_lt (by omega)]
  have d:M / B=2*q:=by rw [a,Nat.add_mul_div_left _ _ f,Nat.div_eq_of_lt (by omega),Nat.zero_add]
  rw [g,d];exact⟨rfl,rfl⟩
theorem Mk {Q i j r:Nat} (g:i=32*j+r) (k:r<32) :
  dgt (Q*2^(i+1)) j+2^r<4294967296/\ka (Q*2^(i+1)) j (dgt (Q*2^(i+1)) j+2^r)=Q*2^(i+1)+2^i:=by
 constructor
 ·unfold dgt;have e:Q*2^(i+1)=Q*2^(r+1)*2^(32*j):=by rw [Nat.mul_assoc,<- Nat.pow_add];congr 2;omega
  have a:(4294967296:Nat)=2^(31 - r)*2^(r+1):=by rw [<- Nat.pow_add,show 31 - r+(r+1)=32 by omega]
  rw [e,Nat.mul_div_cancel _ (Nat.two_pow_pos _)];have b:Q*2^(r+1) % 4294967296=(Q % 2^(31 - r))*2^(r+1):=by rw [a,Nat.mul_mod_mul_right]
  have d:Q % 2^(31 - r)<2^(31 - r):=Nat.mod_lt _ (Nat.two_pow_pos _);have c:(Q % 2^(31 - r)+1)*2^(r+1)<=2^(31 - r)*2^(r+1):=Nat.mul_le_mul_right _ d;rw [<- a,Nat.add_mul,Nat.one_mul,Nat.pow_succ] at c
  rw [b,Nat.pow_succ];have f:=Nat.two_pow_pos r;omega
 ·have h:=pu (Q*2^(i+1)) j (dgt (Q*2^(i+1)) j+2^r);rw [Nat.add_mul,<- Nat.pow_add,show r+32*j=i by omega] at h
  omega
theorem bM {A B:Nat} {v:Value} (h:From B v) (b:A<=B):From A v:=fun a l c e=>Nat.le_trans b (h a l c e)
theorem dt {w:World} {v:Value} {N:Nat} (h:DN w v N):∃ p l c,v=.slice p l c:=by obtain⟨p,c,e⟩:=h.form;exact⟨p,_,c,e⟩
theorem iq {w a:World} {b n M s:Nat} (h:Own w b n M) (i:b<s) (d:Below s w a):Own a b n M:=by
 obtain⟨c,e,g,f⟩:=h;exact⟨c,by rw [d.block b i];exact e,g,f⟩
theorem OB (N:Nat):bl N<=32*nd N:=by
 unfold bl nd
 by_cases h:N=0
 ·rw [if_pos h];omega
 ·rw [if_neg h,if_neg h];omega
theorem OC (w:World):DN (w.alloc (.cells #[.int .u64 1] 41)) (.slice (some ⟨w.heap.size,0,none⟩) 1 1) 1:=by
 refine Or.inr ⟨by decide,w.heap.size,1,by rw [show nd 1=1 by decide],by decide,by simp,fun i hi=>?_⟩
 rw [show nd 1=1 by decide] at hi
 rw [show i=0 by omega]
 simp
 decide
theorem sa (g c n L A B:Nat) (vb:Value) (w:World) (bh:Hid (RowIs w g n A)) (hg:g<w.heap.size) (cm:A≠0) (as:Hid (nd A=n)) (da:n<=c) (hL:Hid (bl A=L)) (dy:L<=32*n) (hB:DN w vb B) (cl:0<B) (hn:n<=10000) (ea:nd B<=10000) :
  Calls Tryz.prog 96 #[.slice (some ⟨g,0,none⟩) n c,vb] w fun e F=>∃ q r,e=.returned (.tuple #[q,r])/\DN F q (A / B)/\DN F r (A % B)/\From w.heap.size q/\From w.heap.size r/\Below w.heap.size w F:=by
 have db:=fun w=>run_make_row' (P:=Tryz.prog) 33 41 (.int .u64 0) 8 Tryz.underlying33 dT rfl .i64 .i64 n (by omega) (by omega) w
 have HO:=aa (oY w n);have bz:Hid (Below w.heap.size w (w.alloc (.cells (madeCells #[.int .u64 0] n) 41))):=(Below.refl _ _).alloc (Nat.le_refl _) _;have dd:Hid (DN w (.slice (some ⟨g,0,none⟩) n c) A):=Or.inr ⟨cm,g,c,by rw [as.out],by rw [as.out];exact da,hg,by rw [as.out];exact bh.out⟩
 have cx:Hid (∀ F,Below w.heap.size w F->Calls Tryz.prog 95 #[.slice (some ⟨g,0,none⟩) n c] F fun e df=>e=.returned (.int .i64 (L:Int))/\F=df):=fun F hb=>by
  have:=oA _ A F (dd.out.below hb) (by rw [as.out];omega)
  rw [hL.out] at this
  exact this.mono fun _ _ ⟨a,b⟩=>⟨a,b.symm⟩
 have HB:=aa hB;have ct:Hid (A<2^L):=by
  show A<2^L
  rw [<- hL.out];unfold bl;rw [if_neg cm];exact Nat.lt_log2_self
 clear hB
 go_enter Tryz.func96,Tryz.ntmps96
 go_wp2_with fail
 refine (cx.out _ bz.out).mono ?_
 rintro e F ⟨rfl,rfl⟩
 go_wp2_with fail
 go_loopw [6,8] (fun v i wr=>∃ k:Nat,k<=L/\i=.int .i64 ((k:Int) - 1)/\Hid (DN wr v (A / 2^k % B))/\Hid (From (w.heap.size+1) v)/\Hid (Own wr w.heap.size n (A / 2^k / B*2^k))/\Hid (Below w.heap.size w wr)) (fun _ i _=>(intOf i+1).toNat)
 case atStart=>
  have e:A / 2^L=0:=Nat.div_eq_of_lt ct.out;exact⟨L,Nat.le_refl _,rfl,by rw [e,Nat.zero_mod];exact Or.inl ⟨rfl,_,_,rfl⟩,gu _,by rw [e,Nat.zero_div,Nat.zero_mul];exact HO,bz⟩
 case round=>
  clear HO db bz;obtain⟨k,hk,rfl,HD,cr,f,C⟩:=hrel;cases k with
  | zero=>
   rw [Nat.pow_zero,Nat.div_one] at HD f
   rw [Nat.mul_one] at f
   have hM:Hid (A / B<2^(32*n)):=Nat.lt_of_le_of_lt (Nat.div_le_self _ _) (by rw [<- as.out];exact cZ A)
   have cp:=f.out.lt;have HQ:=aa (nv f.out.row hM.out (Nat.le_refl _) cp)
   go_wp2_with fail
   refine (dq _ _ _ _ _ f.out.row hM.out (Nat.le_refl _) (by omega)).mono ?_
   rintro e F ⟨rfl,rfl⟩
   go_wp2_with fail
   go_ret2
   exact⟨_,_,rfl,HQ.out,HD.out,gX _ _ _ _ (Nat.le_refl _),bM cr.out (by omega),C.out⟩
  | succ i=>
   have hz:w.heap.size<wr.heap.size:=f.out.lt;obtain⟨R,hR⟩:∃ R,R=A / 2^(i+1) % B:=⟨_,rfl⟩;rw [<- hR] at HD
   obtain⟨pv,cv,rfl⟩:=HD.out.form;have dg:R<B:=by rw [hR];exact Nat.mod_lt _ cl
   have dc:Hid (nd R<=10000000):=by
    have h1:R<2^(32*nd B):=Nat.lt_trans dg (cZ B);have:=bL h1
    show nd R<=10000000
    omega
   obtain⟨b,hb⟩:∃ b,b=A / 2^i % 2:=⟨_,rfl⟩;have J:=aa (Mj cl hR hb);obtain⟨S,hS⟩:∃ S,R*2+b=S:=⟨_,rfl⟩;rw [hS] at J
   have dY:S<2*B:=by
    have:b<2:=by rw [hb];exact Nat.mod_lt _ (by decide)
    omega
   have ac:Hid (nd S<=10000000):=by
    have h1:S<2^(32*(nd B+1)):=by
     have:=cZ B;rw [gr];omega
    have:=bL h1
    show nd S<=10000000
    omega
   obtain⟨j,r,br,hr⟩:∃ j r,i=32*j+r/\r<32:=⟨i / 32,i % 32,by omega,by omega⟩
   have bo:j<n:=by omega
   have hq:(i:Int) / 32=j:=by omega
   have cy:(i:Int) % 32=r:=by omega
   have dE:=aa br;have bx:=bh.out j bo;have cf:wr.cell? ⟨g,j,none⟩=some (.int .u64 (dgt A j:Int)):=(C.out.cell (p:=⟨g,j,none⟩) hg).trans (bh.out j bo);have V:((dgt A j:Int) / 2^r).tmod 2=b:=by
    have:=Mi A i j r br hr;rw [<- hb] at this
    rw [<- this];have e1:((2:Int)^r)=((2^r:Nat):Int):=by rw [Int.natCast_pow];rfl
    rw [e1,<- Int.natCast_ediv,Int.tmod_eq_emod_of_nonneg (Int.natCast_nonneg _)];rfl
   have ad:=aa (Mk (Q:=A / 2^(i+1) / B) br hr);have ds:=bw A j;generalize dgt A j=D at cf V ds
   have cq:Hid (Calls Tryz.prog 97 #[.slice pv (nd R) cv,.int .i64 1] wr fun e F=>∃ v,e=.returned v/\DN F v (R*2)/\From wr.heap.size v/\Below wr.heap.size wr F):=iX _ R 1 wr HD.out dc.out (by omega)
   have dk:b=0/\R*2=S\/b=1/\R*2+1=S:=by
    have:b<2:=by rw [hb];exact Nat.mod_lt _ (by decide)
    omega
   clear hR hb HD cr hS br bx;generalize nd R=lR at *
   have di:((i+1:Nat):Int) - 1=i:=by omega
   rw [di]
   go_wp2_with fail
   refine cq.out.mono ?_
   rintro e O ⟨v1,rfl,N,ai,Y⟩;obtain⟨p1,l1,c1,rfl⟩:=dt N;have cs:O.cell? ⟨g,j,none⟩=some (.int .u64 (D:Int)):=(Y.cell (p:=⟨g,j,none⟩) (Nat.lt_of_lt_of_le hg C.out.size)).trans cf;have cu:wr.heap.size<=O.heap.size:=Y.size;have bk:=aa Y;clear Y cq cf;rcases dk with⟨rfl,hS⟩| ⟨rfl,hS⟩
   ·have dn:(((D:Int) / 2^r).tmod 2==1)=false:=by rw [V];rfl
    clear V;rw [hS] at N
    have E:=aa N;have bc:=aa ai;clear N ai hS
    go_wp2_with fail
    have y:=bk
    by_cases hc:B<=S
    ·obtain⟨t,ht,dp⟩:∃ t:Int,mB S B=t/\0<=t:=by
      rcases Nat.lt_or_eq_of_le hc with h | h
      ·exact⟨1,lk h,by decide⟩
      ·exact⟨0,lj h.symm,by decide⟩
     have m:=aa (C.out.trans (y.out.mono C.out.size));have u:Hid (Calls Tryz.prog 115 #[.slice p1 l1 c1,vb] O fun e F=>e=.returned (.int .i64 t)/\∃ q,F=O.drewN q):=by
      rw [<- ht];exact cL _ _ S B O E.out (HB.out.below m.out) ac.out
     refine u.out.mono ?_
     rintro e w3 ⟨rfl,q3,K⟩;have s:Hid (Below O.heap.size O w3):=by rw [K];exact below_drewN (Below.refl _ _) _
     have l:=aa (m.out.trans (s.out.mono m.out.size));have M:=aa (dQ _ _ S B w3 (E.out.below s.out) (HB.out.below l.out) ac.out hc);obtain⟨H,G⟩:=J.out.1 hc;rw [<- H] at M
     have bv:=aa G;clear ht H G K u
     go_wp2_with fail
     refine M.out.mono ?_
     rintro e w4 ⟨v4,rfl,ab,ba,Z⟩;obtain⟨p4,l4,c4,rfl⟩:=dt ab;have z:=aa (y.out.trans (s.out.mono y.out.size));have W:=aa (z.out.trans (Z.mono z.out.size));have U:=aa (l.out.trans (Z.mono l.out.size));have T:=aa (iq f.out hz W.out);have ho:=T.out.cell (i:=j) bo;have fo:=T.out.frozen j;obtain⟨X,I⟩:=ad.out;rw [<- bv.out] at I
     have bb:=aa ab;have bi:=aa (bM ba (show wr.heap.size<=_ from z.out.size))
     obtain⟨o,ak⟩:∃ o,dgt (A / 2^(i+1) / B*2^(i+1)) j=o:=⟨_,rfl⟩;rw [ak] at ho X I
     obtain⟨P,hP⟩:∃ P,2^r=P:=⟨_,rfl⟩;have wp:=oZ hr;rw [hP] at wp X I
     have e1:((2:Int)^r)=(P:Int):=by rw [<- hP,Int.natCast_pow];rfl
     have ws:IntKind.u64.wrap ((o:Int)+(P:Int))=((o+P:Nat):Int):=by rw [IntKind.wrap_u64];omega
     have td:(i:Int).tdiv 32=j:=by rw [Int.tdiv_eq_ediv_of_nonneg (by omega)];exact hq
     have tm:(i:Int).tmod 32=r:=by rw [Int.tmod_eq_emod_of_nonneg (by omega)];exact cy
     have jn:(j:Int)<(n:Int):=by omega
     have al:=aa I;clear ab ba Z ak hP I ad J f s m l M E bc C bk y
     go_wp2_with fail
     go_region
     have ca:=aa (bb.out.set (bM bi.out hz) (a:=⟨w.heap.size,j,none⟩) (Nat.lt_succ_self _) (.int .u64 ((o:Int)+(P:Int))));have am:=aa (Own.put (j:=j) (d:=o+P) (x:=(o:Int)+(P:Int)) T.out (by omega) X)
     rw [al.out] at am
     have cd:=aa (U.out.setCell (p:=⟨w.heap.size,j,none⟩) (Nat.le_refl _) (.int .u64 ((o:Int)+(P:Int)))).drew;clear T bb U W z al
     go_wp2_with fail
     go_roundw
     case rel=>exact⟨i,by omega,rfl,ca,bM bi.out hz,am,cd⟩
     case measure=>simp [intOf]
    ·obtain⟨H,G⟩:=J.out.2 (by omega)
     have m:=aa (C.out.trans (y.out.mono C.out.size));have u:Hid (Calls Tryz.prog 115 #[.slice p1 l1 c1,vb] O fun e F=>e=.returned (.int .i64 (-1))/\∃ q,F=O.drewN q):=by
      rw [<- li (show S<B by omega)];exact cL _ _ S B O E.out (HB.out.below m.out) ac.out
     have HO:=aa f.out;rw [<- G] at HO
     rw [<- H] at E
     refine u.out.mono ?_
     rintro e w3 ⟨rfl,q3,K⟩;have s:Hid (Below O.heap.size O w3):=by rw [K];exact below_drewN (Below.refl _ _) _
     have l:=aa (m.out.trans (s.out.mono m.out.size));have ci:=aa (E.out.below s.out);have cc:=aa (iq HO.out hz ((y.out.trans (s.out.mono y.out.size))));clear H G K u HO f s m
     go_wp2_with fail
     go_roundw
     case rel=>exact⟨i,by omega,rfl,ci,bM bc.out (by omega),cc,l⟩
     case measure=>simp [intOf]
   ·have dn:(((D:Int) / 2^r).tmod 2==1)=true:=by rw [V];rfl
    clear V;have bs:Hid (Calls Tryz.prog 114 #[.slice p1 l1 c1,.slice (some ⟨O.heap.size,0,none⟩) 1 1] (O.alloc (.cells #[.int .u64 1] 41)) fun e F=>∃ v,e=.returned v/\DN F v S/\From O.heap.size v/\Below O.heap.size O F):=by
     have hb:=(Below.refl O.heap.size O).alloc (Nat.le_refl _) (.cells #[.int .u64 1] 41);have h2:=ac.out;have h3:nd (R*2)<=10000000:=Nat.le_trans (bL (Nat.lt_of_le_of_lt (show R*2<=S by omega) (cZ S))) h2
     have:=ki _ _ (R*2) 1 _ (N.below hb) (OC O) h3 (by decide)
     rw [hS] at this
     exact this.mono fun _ _ ⟨v,a,b,c,d⟩=>⟨v,a,b,bM c (by simp),hb.trans (d.mono (by simp))⟩
    clear N ai hS
    go_wp2_with fail
    refine bs.out.mono ?_
    rintro e w2 ⟨v2,rfl,N,ai,Y⟩;obtain⟨p2,l2,c2,rfl⟩:=dt N;have E:=aa N;have bc:=aa (bM ai cu);have dx:=aa (bk.out.trans (Y.mono cu));clear N ai Y bs cs
    go_wp2_with fail
    have y:=dx
    by_cases hc:B<=S
    ·obtain⟨t,ht,dp⟩:∃ t:Int,mB S B=t/\0<=t:=by
      rcases Nat.lt_or_eq_of_le hc with h | h
      ·exact⟨1,lk h,by decide⟩
      ·exact⟨0,lj h.symm,by decide⟩
     have m:=aa (C.out.trans (y.out.mono C.out.size));have u:Hid (Calls Tryz.prog 115 #[.slice p2 l2 c2,vb] w2 fun e F=>e=.returned (.int .i64 t)/\∃ q,F=w2.drewN q):=by
      rw [<- ht];exact cL _ _ S B w2 E.out (HB.out.below m.out) ac.out
     refine u.out.mono ?_
     rintro e w3 ⟨rfl,q3,K⟩;have s:Hid (Below w2.heap.size w2 w3):=by rw [K];exact below_drewN (Below.refl _ _) _
     have l:=aa (m.out.trans (s.out.mono m.out.size));have M:=aa (dQ _ _ S B w3 (E.out.below s.out) (HB.out.below l.out) ac.out hc);obtain⟨H,G⟩:=J.out.1 hc;rw [<- H] at M
     have bv:=aa G;clear ht H G K u
     go_wp2_with fail
     refine M.out.mono ?_
     rintro e w4 ⟨v4,rfl,ab,ba,Z⟩;obtain⟨p4,l4,c4,rfl⟩:=dt ab;have z:=aa (y.out.trans (s.out.mono y.out.size));have W:=aa (z.out.trans (Z.mono z.out.size));have U:=aa (l.out.trans (Z.mono l.out.size));have T:=aa (iq f.out hz W.out);have ho:=T.out.cell (i:=j) bo;have fo:=T.out.frozen j;obtain⟨X,I⟩:=ad.out;rw [<- bv.out] at I
     have bb:=aa ab;have bi:=aa (bM ba (show wr.heap.size<=_ from z.out.size))
     obtain⟨o,ak⟩:∃ o,dgt (A / 2^(i+1) / B*2^(i+1)) j=o:=⟨_,rfl⟩;rw [ak] at ho X I
     obtain⟨P,hP⟩:∃ P,2^r=P:=⟨_,rfl⟩;have wp:=oZ hr;rw [hP] at wp X I
     have e1:((2:Int)^r)=(P:Int):=by rw [<- hP,Int.natCast_pow];rfl
     have ws:IntKind.u64.wrap ((o:Int)+(P:Int))=((o+P:Nat):Int):=by rw [IntKind.wrap_u64];omega
     have td:(i:Int).tdiv 32=j:=by rw [Int.tdiv_eq_ediv_of_nonneg (by omega)];exact hq
     have tm:(i:Int).tmod 32=r:=by rw [Int.tmod_eq_emod_of_nonneg (by omega)];exact cy
     have jn:(j:Int)<(n:Int):=by omega
     have al:=aa I;clear ab ba Z ak hP I ad J f s m l M E bc C bk y
     go_wp2_with fail
     go_region
     have ca:=aa (bb.out.set (bM bi.out hz) (a:=⟨w.heap.size,j,none⟩) (Nat.lt_succ_self _) (.int .u64 ((o:Int)+(P:Int))));have am:=aa (Own.put (j:=j) (d:=o+P) (x:=(o:Int)+(P:Int)) T.out (by omega) X)
     rw [al.out] at am
     have cd:=aa (U.out.setCell (p:=⟨w.heap.size,j,none⟩) (Nat.le_refl _) (.int .u64 ((o:Int)+(P:Int)))).drew;clear T bb U W z al
     go_wp2_with fail
     go_roundw
     case rel=>exact⟨i,by omega,rfl,ca,bM bi.out hz,am,cd⟩
     case measure=>simp [intOf]
    ·obtain⟨H,G⟩:=J.out.2 (by omega)
     have m:=aa (C.out.trans (y.out.mono C.out.size));have u:Hid (Calls Tryz.prog 115 #[.slice p2 l2 c2,vb] w2 fun e F=>e=.returned (.int .i64 (-1))/\∃ q,F=w2.drewN q):=by
      rw [<- li (show S<B by omega)];exact cL _ _ S B w2 E.out (HB.out.below m.out) ac.out
     have HO:=aa f.out;rw [<- G] at HO
     rw [<- H] at E
     refine u.out.mono ?_
     rintro e w3 ⟨rfl,q3,K⟩;have s:Hid (Below w2.heap.size w2 w3):=by rw [K];exact below_drewN (Below.refl _ _) _
     have l:=aa (m.out.trans (s.out.mono m.out.size));have ci:=aa (E.out.below s.out);have cc:=aa (iq HO.out hz ((y.out.trans (s.out.mono y.out.size))));clear H G K u HO f s m
     go_wp2_with fail
     go_roundw
     case rel=>exact⟨i,by omega,rfl,ci,bM bc.out (by omega),cc,l⟩
     case measure=>simp [intOf]
theorem sb (v b:Value) (A B:Nat) (w:World) (o:DN w v A) (j:DN w b B) (d:A≠0) (a:0<B) (l:nd A<=10000) (n:nd B<=10000) :
  Calls Tryz.prog 96 #[v,b] w fun e h=>∃ q r,e=.returned (.tuple #[q,r])/\DN h q (A / B)/\DN h r (A % B)/\From w.heap.size q/\From w.heap.size r/\Below w.heap.size w h:=by
 rcases o with⟨f,_⟩| ⟨f,g,c,rfl,i,k,m⟩
 ·exact absurd f d
 ·exact sa g c (nd A) (bl A) A B b w m k f rfl i rfl (OB A) j a l n
theorem je (nx B mo:Bool) (vx vy:Value) (ex ey v:Int) (X Y k lr:Nat) (w:World) (hX:DN w vx X) (hY:DN w vy Y) (S:X≠0) (am:Y≠0) (ab:nd X<=300) (ad:nd Y<=100)
  (he: -10000<=ex) (br:ex<=10000) (hf: -10000<=ey) (bv:ey<=10000) (hk:max 0 (70 - (bl X:Int)+(bl Y:Int))=(k:Int)) (T:Hid (nd (X*2^k % Y)=lr)) (bs:decide (0<lr)=mo) (q:Hid (bJ nx (X*2^k / Y) (ex - k - ey) mo=v)) :
  Calls Tryz.prog 61 #[.agg #[.bool nx,vx,.int .i64 ex],.agg #[.bool B,vy,.int .i64 ey]] w fun x a=>x=.returned (.int .u64 v)/\Below w.heap.size w a:=by
 have ba:=sE X;have al:=sE Y;have bx:k<=10000:=by omega
 obtain⟨e,c,d,rfl⟩:=dt hX;obtain⟨p,i,o,rfl⟩:=dt hY;have y:Hid (Below w.heap.size w (boxN (boxN w nx (.slice e c d) ex) B (.slice p i o) ey)):=(aE w nx (.slice e c d) ex).trans ((aE (boxN w nx (.slice e c d) ex) B (.slice p i o) ey).mono (by simp))
 have HZ:=aa (gw w nx (.slice e c d) ex B (.slice p i o) ey);have P:=aa (uC w nx (.slice e c d) ex B (.slice p i o) ey);have HX:=aa fun a (hb:Below w.heap.size w a)=>hX.below hb
 have HY:=aa fun a (hb:Below w.heap.size w a)=>hY.below hb
 have bc:=aa S;have Q:Hid (X*2^k≠0):=by
  have:=Nat.mul_pos (show 0<X by omega) (Nat.two_pow_pos k)
  show X*2^k≠0
  omega
 have H:Hid (nd (X*2^k)<=10000):=by
  have h1:X*2^k<2^(32*nd X)*2^k:=Nat.mul_lt_mul_of_pos_right (cZ X) (Nat.two_pow_pos _);rw [<- Nat.pow_add] at h1
  have:=bL (N:=X*2^k) (k:=nd X+k / 32+1) (Nat.lt_of_lt_of_le h1 (Nat.pow_le_pow_right (by decide) (by omega)))
  show nd (X*2^k)<=10000
  omega
 have Z:Hid (nd (X*2^k / Y)<=1000000):=by
  have:=bL (Nat.lt_of_le_of_lt (Nat.div_le_self (X*2^k) Y) (cZ (X*2^k)));have h2:=H.out
  show nd (X*2^k / Y)<=1000000
  omega
 have ac:Hid (0<Y):=by show 0<Y;omega
 have t:=aa ab;have z:=aa ad;obtain⟨l,r⟩:∃ l:Int,(bl X:Int)=l:=⟨_,rfl⟩;obtain⟨E,s⟩:∃ E:Int,(bl Y:Int)=E:=⟨_,rfl⟩;rw [r,s] at hk
 have b1:0<=l:=by omega
 have b2:l<=9600:=by omega
 have b3:0<=E:=by omega
 have b4:E<=3200:=by omega
 have I:=aa r;have L:=aa s;have f1:IntKind.i64.wrap (70 - l)=70 - l:=by rw [IntKind.wrap_i64];omega
 have f2:IntKind.i64.wrap (70 - l+E)=70 - l+E:=by rw [IntKind.wrap_i64];omega
 have f3:IntKind.i64.wrap (ex - (k:Int))=ex - (k:Int):=by rw [IntKind.wrap_i64];omega
 have f4:IntKind.i64.wrap (ex - (k:Int) - ey)=ex - (k:Int) - ey:=by rw [IntKind.wrap_i64];omega
 clear hX hY S am r s ba al ab ad
 go_enter Tryz.func61,Tryz.ntmps61
 go_wp2_with fail
 refine (aZ _ _ _ X false _ (HX.out _ y.out) (decide_eq_false bc.out)).mono ?_
 rintro x w1 ⟨rfl,h⟩;have G:=aa (P.out.below h (by rw [HZ.out];omega))
 have U:w.heap.size+2<=w1.heap.size:=by have h9:=h.size;rw [HZ.out] at h9;exact h9
 have f:=aa (y.out.trans (h.mono y.out.size));obtain⟨c0,c1,c2,c3,c4,c5⟩:=G.out;clear h
 go_wp2_with fail
 go_quiet ((first | (go_at_call_of 95 (Value.slice e c d);exact Calls.quiet_of_same (mA (.slice e c d) X l _ (HX.out _ (below_drewN f.out _)) (by have:=t.out;omega) I)) | (go_at_call_of 95 (Value.slice p i o);exact Calls.quiet_of_same (mA (.slice p i o) Y E _ (HY.out _ (below_drewN f.out _)) (by have:=z.out;omega) L))))
 obtain⟨n,b⟩:∃ n,n=w1.drewN nq:=⟨_,rfl⟩;rw [<- b];have g:Hid (Six n w.heap.size nx (.slice e c d) ex B (.slice p i o) ey):=by rw [b];exact G.out
 have bb:w.heap.size+2<=n.heap.size:=by rw [b];exact U
 have C:Hid (Below w.heap.size w n):=by rw [b];exact below_drewN f.out _
 clear b c0 c1 c2 c3 c4 c5 G f U P I L hk;obtain⟨d0,d1,d2,d3,d4,d5⟩:=g.out;have J:=aa (iX (.slice e c d) X k n.drew (HX.out _ C.out.drew) (by have:=t.out;omega) (by omega))
 go_wp2_with fail
 go_region_held3 (fun a=>a.cell? ⟨w.heap.size,0,none⟩=some (.bool nx)/\a.cell? ⟨w.heap.size,1,none⟩=some (.slice e c d)/\a.cell? ⟨w.heap.size,2,none⟩=some (.int .i64 ex)/\a.cell? ⟨w.heap.size+1,0,none⟩=some (.bool B)/\a.cell? ⟨w.heap.size+1,1,none⟩=some (.slice p i o)/\a.cell? ⟨w.heap.size+1,2,none⟩=some (.int .i64 ey)) (first | exact g.out | exact D.out | exact A.out | go_keep) (first | ((go_at_call 97;refine J.out.mono ?_;rintro x w3 ⟨v3,rfl,R,ak,j⟩;have D:=aa (Six.below (w:=n.drew) g.out j (show w.heap.size+1<n.heap.size by omega));have m:=aa (C.out.drew.trans (j.mono (show w.heap.size<=n.heap.size by omega)));have bo:w.heap.size+2<=w3.heap.size:=Nat.le_trans bb j.size;have ai:=aa R;clear R ak j)) | ((go_at_call 96;refine (sb _ (.slice p i o) (X*2^k) Y w3 ai.out (HY.out _ m.out) Q.out ac.out H.out (by have:=z.out;omega)).mono ?_;rintro x w4 ⟨vq,vr,rfl,F,M,bk,bh,u⟩;have A:=aa (Six.below D.out u (show w.heap.size+1<w3.heap.size by omega));have W:=aa (m.out.trans (u.mono m.out.size));obtain⟨pq,lq,cq,rfl⟩:=dt F;obtain⟨pr,cr,K⟩:=M.form;rw [T.out] at K;subst K;have O:=aa F;clear F M bk bh u)))
 clear d0 d1 d2 d3 d4 d5;obtain⟨d0,d1,d2,d3,d4,d5⟩:=A.out;have as:Hid (Calls Tryz.prog 98 #[.agg #[.bool nx,.slice pq lq cq,.int .i64 (ex - (k:Int) - ey)],.bool mo] w4 fun x a=>x=.returned (.int .u64 v)/\Below w4.heap.size w4 a):=by
  rw [<- q.out];exact lh nx mo (.slice pq lq cq) (ex - (k:Int) - ey) (X*2^k / Y) w4 O.out Z.out (by omega) (by omega)
 clear g D A m C J ai HX HY O Q H Z ac t z q T f1 f2 f3 f4
 go_wp2_with fail
 refine as.out.mono ?_
 rintro x w5 ⟨rfl,V⟩;have bi:=aa (W.out.trans (V.mono W.out.size));clear V
 go_wp2_with fail
 go_ret
 exact⟨rfl,bi.out⟩
theorem xh {x y:Nat} (h:(x % 9223372036854775808=9218868437227405312/\y % 9223372036854775808=9218868437227405312)\/(x % 9223372036854775808=0/\y % 9223372036854775808=0)):floatBits .quo .f64 x y=none:=by
 show ((Ieee.double.read x).quotient 54 (Ieee.double.read y)).map Ieee.double.write=_
 rcases h with⟨b,a⟩| ⟨b,a⟩
 ·rw [aS b,aS a];rfl
 ·rw [ay (by omega),ay (by omega),b,a];rfl
theorem CM {x y:Nat} (b:x % 9223372036854775808=9218868437227405312) (a:af y):floatBits .quo .f64 x y=some (wrd (sB x^^sB y) 9218868437227405312):=by
 show ((Ieee.double.read x).quotient 54 (Ieee.double.read y)).map Ieee.double.write=_
 rw [aS b,ay a]
 show some (Ieee.double.write (.infinity _))=_
 rw [dJ];rfl
theorem nC {x y:Nat} (c:af x) (e:x % 9223372036854775808≠0) (a:y % 9223372036854775808=0):floatBits .quo .f64 x y=some (wrd (sB x^^sB y) 9218868437227405312):=by
 have d:=fy e
 show ((Ieee.double.read x).quotient 54 (Ieee.double.read y)).map Ieee.double.write=_
 rw [ay c,ay (b:=y) (by omega),a,show mg 0=0 by decide]
 show (if mg (x % 9223372036854775808)=0 then none else some (Ieee.Datum.infinity (_^^_))).map Ieee.double.write=_
 rw [if_neg d]
 show some (Ieee.double.write (.infinity _))=_
 rw [dJ];rfl
theorem AA (s:Bool) (i:Int):Ieee.double.write (.number s 0 i)=wrd s 0:=by
 show Ieee.double.nearest s 0 i=_
 rw [cE,ic]
theorem pK {x y:Nat} (b:af x) (a:y % 9223372036854775808=9218868437227405312):floatBits .quo .f64 x y=some (wrd (sB x^^sB y) 0):=by
 show ((Ieee.double.read x).quotient 54 (Ieee.double.read y)).map Ieee.double.write=_
 rw [ay b,aS a]
 show some (Ieee.double.write (.number _ 0 0))=_
 rw [AA];rfl
theorem sS (s t:Bool) (m n:Nat) (i j:Int) (hn:n≠0):((Ieee.Datum.number s m i).quotient 54 (.number t n j)).map Ieee.double.write=some (Ieee.double.nearest (s^^t) (2*(m*2^(54+n.log2 - m.log2) / n)+(m*2^(54+n.log2 - m.log2) % n !=0).toNat) (i - j - ((54+n.log2 - m.log2:Nat):Int) - 1)):=by
 show (if n=0 then _ else some (Ieee.Datum.number (s^^t) (2*((m <<< (54+n.log2 - m.log2)) / n)+((m <<< (54+n.log2 - m.log2)) % n !=0).toNat) (i - j - ((54+n.log2 - m.log2:Nat):Int) - 1))).map Ieee.double.write=_
 rw [if_neg hn,Nat.shiftLeft_eq]
 rfl
theorem pL {x y:Nat} (c:x % 9223372036854775808=0) (a:af y) (e:y % 9223372036854775808≠0):floatBits .quo .f64 x y=some (wrd (sB x^^sB y) 0):=by
 have d:=fy e
 show ((Ieee.double.read x).quotient 54 (Ieee.double.read y)).map Ieee.double.write=_
 rw [ay (b:=x) (by omega),ay a,c,sS _ _ _ _ _ _ d,show mg 0=0 by decide,Nat.zero_mul,Nat.zero_div,Nat.zero_mod]
 show some (Ieee.double.nearest _ 0 _)=_
 rw [cE,ic];rfl
theorem Ml (X Y k:Nat):2*(X*2^k / Y)+(X*2^k % Y !=0).toNat=aP X Y k:=by
 unfold aP
 congr 1
 by_cases h:X*2^k % Y=0
 ·rw [if_pos h,h];rfl
 ·rw [if_neg h,show (X*2^k % Y !=0)=true by simpa using h];rfl
theorem jL {x y:Nat} (o:af x) (j:af y) (l:x % 9223372036854775808≠0) (m:y % 9223372036854775808≠0) {X Y:Nat} {ex ey:Int} (i:X=mg (x % 9223372036854775808)) (g:Y=mg (y % 9223372036854775808)) (d:ex= -1074+(pl (x % 9223372036854775808):Int)) (f:ey= -1074+(pl (y % 9223372036854775808):Int)) {k:Nat} (n:54+Y.log2 - X.log2<=k) :
  floatBits .quo .f64 x y=some (wrd (sB x^^sB y) (nearR (aP X Y k) (ex - ey - 1 - k))):=by
 have e:X≠0:=by rw [i];exact fy l
 have a:Y≠0:=by rw [g];exact fy m
 show ((Ieee.double.read x).quotient 54 (Ieee.double.read y)).map Ieee.double.write=_
 rw [ay o,ay j,<- i,<- g,<- d,<- f,sS _ _ _ _ _ _ a,Ml];have b:=jd e a (k:=54+Y.log2 - X.log2) (by omega)
 have c:aP X Y (54+Y.log2 - X.log2)≠0:=by intro h;rw [h] at b;exact absurd b.2 (by decide)
 rw [bR _ c,ic];have:=jc (X:=X) (Y:=Y) (p:=ex - ey - 1) (by omega) n b.2
 rw [<- this,show ex - ey - ((54+Y.log2 - X.log2:Nat):Int) - 1=ex - ey - 1 - ((54+Y.log2 - X.log2:Nat):Int) by omega]
 rfl
theorem ir (u v:Int) (w:World) (h:U64 u) (b:U64 v) (hc:ah u=true\/(ah u=false/\ah v=true)\/(ah u=false/\ah v=false/\aY u=true/\aY v=true)\/(ah u=false/\ah v=false/\aY u=false/\(szI u==0)=true/\(szI v==0)=true)) :
  Calls Tryz.prog 144 #[.int .u64 u,.int .u64 v] w fun e a=>e=.returned (.int .u64 9221120237041090561)/\a=w:=by
 have j:=uG h b;rcases hc with c | ⟨c,d⟩| ⟨c,d,f,g⟩| ⟨c,d,f,g,i⟩
 all_goals
  go_enter Tryz.func144,Tryz.ntmps144
  go_wp2_with (first | (go_at_call_of 49 (Value.int IntKind.u64 u);refine (aj u _ h).mono ?_;rintro e a ⟨rfl,rfl⟩) | (go_at_call_of 49 (Value.int IntKind.u64 v);refine (aj v _ b).mono ?_;rintro e a ⟨rfl,rfl⟩) | (go_at_call_of 72 (Value.int IntKind.u64 u);refine (aw u _ h).mono ?_;rintro e a ⟨rfl,rfl⟩) | (go_at_call_of 72 (Value.int IntKind.u64 v);refine (aw v _ b).mono ?_;rintro e a ⟨rfl,rfl⟩) | (go_at_call_of 76 (Value.int IntKind.u64 u);refine (aI u _ h).mono ?_;rintro e a ⟨rfl,rfl⟩) | (go_at_call_of 76 (Value.int IntKind.u64 v);refine (aI v _ b).mono ?_;rintro e a ⟨rfl,rfl⟩))
  go_ret
  exact⟨rfl,rfl⟩
theorem pM (u v S:Int) (w:World) (h:U64 u) (b:U64 v) (j:bits .and .u64 (bits .xor .u64 u v) 9223372036854775808=S) (c:0<=S) (g:S<=9223372036854775808) (hn:ah u=false) (d:ah v=false) (k:(szI u==0)=false) (hc:(aY u=true/\aY v=false)\/(aY u=false/\(szI v==0)=true)) :
  Calls Tryz.prog 144 #[.int .u64 u,.int .u64 v] w fun e a=>e=.returned (.int .u64 (S+9218868437227405312))/\a=w:=by
 rcases hc with⟨f,i⟩| ⟨f,i⟩
 all_goals
  go_enter Tryz.func144,Tryz.ntmps144
  go_wp2_with (first | (go_at_call_of 49 (Value.int IntKind.u64 u);refine (aj u _ h).mono ?_;rintro e a ⟨rfl,rfl⟩) | (go_at_call_of 49 (Value.int IntKind.u64 v);refine (aj v _ b).mono ?_;rintro e a ⟨rfl,rfl⟩) | (go_at_call_of 72 (Value.int IntKind.u64 u);refine (aw u _ h).mono ?_;rintro e a ⟨rfl,rfl⟩) | (go_at_call_of 72 (Value.int IntKind.u64 v);refine (aw v _ b).mono ?_;rintro e a ⟨rfl,rfl⟩) | (go_at_call_of 76 (Value.int IntKind.u64 u);refine (aI u _ h).mono ?_;rintro e a ⟨rfl,rfl⟩) | (go_at_call_of 76 (Value.int IntKind.u64 v);refine (aI v _ b).mono ?_;rintro e a ⟨rfl,rfl⟩))
  go_ret
  exact⟨rfl,rfl⟩
theorem jf (u v S:Int) (w:World) (h:U64 u) (b:U64 v) (g:bits .and .u64 (bits .xor .u64 u v) 9223372036854775808=S) (hn:ah u=false) (f:ah v=false) (hi:aY u=false) (i:(szI v==0)=false) (hc:(aY v=true/\(szI u==0)=true)\/(aY v=true/\(szI u==0)=false)\/(aY v=false/\(szI u==0)=true)) :
  Calls Tryz.prog 144 #[.int .u64 u,.int .u64 v] w fun e a=>e=.returned (.int .u64 S)/\a=w:=by
 rcases hc with⟨c,d⟩| ⟨c,d⟩| ⟨c,d⟩
 all_goals
  go_enter Tryz.func144,Tryz.ntmps144
  go_wp2_with (first | (go_at_call_of 49 (Value.int IntKind.u64 u);refine (aj u _ h).mono ?_;rintro e a ⟨rfl,rfl⟩) | (go_at_call_of 49 (Value.int IntKind.u64 v);refine (aj v _ b).mono ?_;rintro e a ⟨rfl,rfl⟩) | (go_at_call_of 72 (Value.int IntKind.u64 u);refine (aw u _ h).mono ?_;rintro e a ⟨rfl,rfl⟩) | (go_at_call_of 72 (Value.int IntKind.u64 v);refine (aw v _ b).mono ?_;rintro e a ⟨rfl,rfl⟩) | (go_at_call_of 76 (Value.int IntKind.u64 u);refine (aI u _ h).mono ?_;rintro e a ⟨rfl,rfl⟩) | (go_at_call_of 76 (Value.int IntKind.u64 v);refine (aI v _ b).mono ?_;rintro e a ⟨rfl,rfl⟩))
  go_ret
  exact⟨rfl,rfl⟩
theorem lD {r:Nat} (h:V r=0):r=0:=by
 have:=eX (r:=r) (s:=0);rw [bp] at this
 exact this.1 h
theorem Mm (s:Bool) {r:Nat} (h:r<=9218868437227405312):U64 (gB s+(r:Int))/\szI (gB s+(r:Int))=r:=by
 unfold gB U64 szI;cases s<;>simp only [Bool.false_eq_true,if_true,if_false]<;>omega
theorem gD (x:Nat):x % 9223372036854775808 % 9223372036854775808=x % 9223372036854775808:=Nat.mod_mod _ _
theorem Ic {x y X Y k:Nat} {nx:Bool} {ex ey:Int} (w:OfR (x % 9223372036854775808) nx X ex) {s:Bool} (o:OfR (y % 9223372036854775808) s Y ey) (g:af x) (h:af y) (u:x % 9223372036854775808≠0) (v:y % 9223372036854775808≠0) (c:X≠0) (b:Y≠0) (A:max 0 (70 - (bl X:Int)+(bl Y:Int))=(k:Int)) (more:Bool) (a:decide (0<nd (X*2^k % Y))=more) :
  ∃ r:Nat,r<=9218868437227405312/\floatBits .quo .f64 x y=some (wrd (sB x^^sB y) r)/\U64 (bJ nx (X*2^k / Y) (ex - k - ey) more)/\szI (bJ nx (X*2^k / Y) (ex - k - ey) more)=r:=by
 obtain⟨l,j⟩:=w.mag c;obtain⟨m,n⟩:=o.mag b;rw [gD] at l j m n
 have t:=eA c;have q:=eA b;have i:54+Y.log2 - X.log2<=k:=by omega
 have p:=jL g h u v l m j n i;have z:=jd c b (k:=k) (by omega)
 refine⟨nearR (aP X Y k) (ex - ey - 1 - (k:Int)),Nat.min_le_right _ _,p,?_⟩
 rw [kG nx more _ z.1];have e:2*(X*2^k / Y)+(if more=true then 1 else 0)=aP X Y k:=by
  unfold aP
  congr 1
  by_cases f:X*2^k % Y=0
  ·rw [f] at a
   rw [if_pos f,<- a];rfl
  ·have:=dm f;rw [if_neg f,<- a,if_pos (decide_eq_true (show 0<nd (X*2^k % Y) from this))]
 rw [e,show ex - (k:Int) - ey - 1=ex - ey - 1 - (k:Int) by omega]
 have d:nearR (aP X Y k) (ex - ey - 1 - (k:Int))<=9218868437227405312:=Nat.min_le_right _ _;generalize nearR (aP X Y k) (ex - ey - 1 - (k:Int))=r at d
 exact Mm nx d
theorem AB (x y r:Nat) (u v S R:Int) (w:World) (hu:Hid (u=(x:Int))) (hv:Hid (v=(y:Int))) (h:U64 u) (W:U64 v) (hx:af x) (Z:af y) (h0:Hid (x % 9223372036854775808≠0)) (h1:Hid (y % 9223372036854775808≠0)) (hS:bits .and .u64 (bits .xor .u64 u v) 9223372036854775808=S) (bb:0<=S) (ba:S<=9223372036854775808) (hr:Hid (floatBits .quo .f64 x y=some (wrd (sB x^^sB y) r))) (O:Hid (r<=9218868437227405312)) (hR:Hid (R=(r:Int))) (hn:ah u=false) (G:ah v=false) (hi:aY u=false) (F:aY v=false) (hz:(szI u==0)=false) (ai:(szI v==0)=false) :
  Calls Tryz.prog 144 #[.int .u64 u,.int .u64 v] w fun e a=>e=.returned (.int .u64 (S+R))/\Below w.heap.size w a:=by
 have am:0<=R:=by rw [hR.out];omega
 have as:R<=9218868437227405312:=by have:=O.out;rw [hR.out];omega
 have HX:=aa hx;have HY:=aa Z;have U:=bI hu.out;have V:=bI hv.out;obtain⟨P,m⟩:∃ P,szI u=P:=⟨_,rfl⟩;obtain⟨Q,p⟩:∃ Q,szI v=Q:=⟨_,rfl⟩;rw [m] at U hz
 rw [p] at V ai
 have ak:Hid (∀ w,Calls Tryz.prog 74 #[.int .u64 P] w fun r a=>∃ neg v N e,r=.returned (.agg #[.bool neg,v,.int .i64 e])/\DN a v N/\OfR (x % 9223372036854775808) neg N e/\Below w.heap.size w a):=fun w=>eC (x % 9223372036854775808) P w U (by rw [U];exact ag (by omega)) (by unfold af at *;rw [gD];exact hx)
 have al:Hid (∀ w,Calls Tryz.prog 74 #[.int .u64 Q] w fun r a=>∃ neg v N e,r=.returned (.agg #[.bool neg,v,.int .i64 e])/\DN a v N/\OfR (y % 9223372036854775808) neg N e/\Below w.heap.size w a):=fun w=>eC (y % 9223372036854775808) Q w V (by rw [V];exact ag (by omega)) (by unfold af at *;rw [gD];exact Z)
 have ac:=aa fun w=>io u P w h m
 have I:=aa fun w=>io v Q w W p
 have t:=aa (aj u · h);have L:=aa (aj v · W);have H:=aa (aw u · h);have E:=aa (aw v · W);rw [hn] at t
 rw [G] at L
 rw [hi] at H
 rw [F] at E
 clear hx Z hn G hi F h W m p U V
 go_enter Tryz.func144,Tryz.ntmps144
 go_wp2_with (first | (go_at_call_of 49 (Value.int IntKind.u64 u);refine (aG (t.out _)).mono ?_;rintro e a ⟨rfl,rfl⟩) | (go_at_call_of 49 (Value.int IntKind.u64 v);refine (aG (L.out _)).mono ?_;rintro e a ⟨rfl,rfl⟩) | (go_at_call_of 72 (Value.int IntKind.u64 u);refine (aG (H.out _)).mono ?_;rintro e a ⟨rfl,rfl⟩) | (go_at_call_of 72 (Value.int IntKind.u64 v);refine (aG (E.out _)).mono ?_;rintro e a ⟨rfl,rfl⟩) | (go_at_call_of 76 (Value.int IntKind.u64 u);refine (ac.out _).mono ?_;rintro e a ⟨rfl,rfl⟩) | (go_at_call_of 76 (Value.int IntKind.u64 v);refine (I.out _).mono ?_;rintro e a ⟨rfl,rfl⟩))
 refine (ak.out _).mono ?_
 rintro r1 w1 ⟨nx,vx,X,ex,rfl,A,hX,C⟩;have l:=aa C;have B:=aa A;have b:=aa hX;clear C A hX
 go_wp2_with fail
 refine (I.out _).mono ?_
 rintro e a ⟨rfl,rfl⟩
 go_wp2_with fail
 refine (al.out _).mono ?_
 rintro r1 w2 ⟨ny,vy,Y,ey,rfl,D,hY,o⟩;have q:=aa (l.out.trans (o.mono l.out.size));have g:=aa (B.out.below o);have z:=aa D;have c:=aa hY;clear o D hY l B;have j:Hid (X≠0):=fun e=>h0.out (by have:=b.out.val;rw [e,Nat.zero_mul] at this;unfold aV at this;rw [gD] at this;exact lD this.symm)
 have i:Hid (Y≠0):=fun e=>h1.out (by have:=c.out.val;rw [e,Nat.zero_mul] at this;unfold aV at this;rw [gD] at this;exact lD this.symm)
 obtain⟨k,hk⟩:∃ k:Nat,max 0 (70 - (bl X:Int)+(bl Y:Int))=(k:Int):=⟨(max 0 (70 - (bl X:Int)+(bl Y:Int))).toNat,by omega⟩
 obtain⟨s,n⟩:∃ s,decide (0<nd (X*2^k % Y))=s:=⟨_,rfl⟩;obtain⟨r',p1,p2,p3,T⟩:=Ic b.out c.out HX.out HY.out h0.out h1.out j.out i.out hk s n;have M:r'=r:=by
  have e:=hr.out;rw [p2] at e
  have e2:wrd (sB x^^sB y) r'=wrd (sB x^^sB y) r:=Option.some.inj e;unfold wrd at e2
  split at e2<;>omega
 obtain⟨f,d⟩:∃ f,bJ nx (X*2^k / Y) (ex - k - ey) s=f:=⟨_,rfl⟩;rw [d] at p3 T
 rw [M,<- hR.out] at T
 have K:=aa (je nx ny s vx vy ex ey f X Y k _ w2 g.out z.out j.out i.out (by have:=dr b.out.lt;omega) (by have:=dr c.out.lt;omega) (by have:=b.out.lo;omega) (by have:=b.out.hi;omega) (by have:=c.out.lo;omega) (by have:=c.out.hi;omega) hk rfl n d)
 have ab:=aa fun w=>io f R w p3 T
 clear hk n d p1 p2 p3 T M j i b c g z hr O
 go_wp2_with fail
 refine K.out.mono ?_
 rintro r1 w3 ⟨rfl,J⟩;have ad:=aa (q.out.trans (J.mono q.out.size));clear J K q
 go_wp2_with fail
 refine (ab.out _).mono ?_
 rintro r1 a ⟨rfl,rfl⟩
 go_wp2_with fail
 go_ret
 exact⟨rfl,ad.out⟩
theorem iu (x y:Nat) (u v:Int) (w:World) (p:Hid (u=(x:Int))) (n:Hid (v=(y:Int))) (h:U64 u) (k:U64 v) :
  Calls Tryz.prog 144 #[.int .u64 u,.int .u64 v] w fun e A=>e=.returned (.int .u64 (cn (floatBits .quo .f64 x y):Int))/\Below w.heap.size w A:=by
 have s:=uG h k;obtain⟨F,G⟩:=CL (sgB u^^sgB v);have B:x<18446744073709551616:=by have:=h.2;rw [p.out] at this;omega
 have z:y<18446744073709551616:=by have:=k.2;rw [n.out] at this;omega
 have m:sgB u=sB x:=by rw [p.out];exact fQ B
 have l:sgB v=sB y:=by rw [n.out];exact fQ z
 have L:=bI p.out;have K:=bI n.out;have o:∀ b,decide (x % 9223372036854775808=0)=b->(szI u==0)=b:=fun b e=>by
  rw [<- e,L];by_cases c:x % 9223372036854775808=0
  ·rw [c];rfl
  ·rw [decide_eq_false c];simp;omega
 have q:∀ b,decide (y % 9223372036854775808=0)=b->(szI v==0)=b:=fun b e=>by
  rw [<- e,K];by_cases c:y % 9223372036854775808=0
  ·rw [c];rfl
  ·rw [decide_eq_false c];simp;omega
 have same:∀ {r:Int},(Calls Tryz.prog 144 #[.int .u64 u,.int .u64 v] w fun e A=>e=.returned (.int .u64 r)/\A=w)->(cn (floatBits .quo .f64 x y):Int)=r->Calls Tryz.prog 144 #[.int .u64 u,.int .u64 v] w fun e A=>e=.returned (.int .u64 (cn (floatBits .quo .f64 x y):Int))/\Below w.heap.size w A:=fun J e=>by
  rw [e];exact J.mono fun _ _ ⟨a,b⟩=>⟨a,by rw [b];exact Below.refl _ _⟩
 cases j:ah u with
 | true=>
  refine same (ir u v w h k (Or.inl j)) ?_
  rw [dV (by rw [<- p.out];exact j)];rfl
 | false=>
  cases f:ah v with
  | true=>
   refine same (ir u v w h k (Or.inr (Or.inl ⟨j,f⟩))) ?_
   rw [eR (by rw [<- n.out];exact f)];rfl
  | false=>
   cases hi:aY u with
   | true=>
    have H:=il p.out hi;cases g:aY v with
    | true=>
     have D:=il n.out g;refine same (ir u v w h k (Or.inr (Or.inr (Or.inl ⟨j,f,hi,g⟩)))) ?_
     rw [xh (Or.inl ⟨H,D⟩)];rfl
    | false=>
     have t:=fx n.out f g;refine same (pM u v _ w h k s F G j f (o _ (by rw [H];rfl)) (Or.inl ⟨hi,g⟩)) ?_
     rw [CM H t,ar,dW,m,l];rfl
   | false=>
    have C:=fx p.out j hi
    by_cases i:y % 9223372036854775808=0
    ·by_cases d:x % 9223372036854775808=0
     ·refine same (ir u v w h k (Or.inr (Or.inr (Or.inr ⟨j,f,hi,o _ (decide_eq_true d),q _ (decide_eq_true i)⟩)))) ?_
      rw [xh (Or.inr ⟨d,i⟩)];rfl
     ·refine same (pM u v _ w h k s F G j f (o _ (decide_eq_false d)) (Or.inr ⟨hi,q _ (decide_eq_true i)⟩)) ?_
      rw [nC C d i,ar,dW,m,l];rfl
    ·cases g:aY v with
     | true=>
      have D:=il n.out g;have e:(cn (floatBits .quo .f64 x y):Int)=gB (sgB u^^sgB v):=by rw [pK C D,ar,dW,m,l];simp
      by_cases d:x % 9223372036854775808=0
      ·exact same (jf u v _ w h k s j f hi (q _ (decide_eq_false i)) (Or.inl ⟨g,o _ (decide_eq_true d)⟩)) e
      ·exact same (jf u v _ w h k s j f hi (q _ (decide_eq_false i)) (Or.inr (Or.inl ⟨g,o _ (decide_eq_false d)⟩))) e
     | false=>
      have t:=fx n.out f g
      by_cases d:x % 9223372036854775808=0
      ·refine same (jf u v _ w h k s j f hi (q _ (decide_eq_false i)) (Or.inr (Or.inr ⟨g,o _ (decide_eq_true d)⟩))) ?_
       rw [pL d t i,ar,dW,m,l];simp
      ·obtain⟨r,I,E⟩:∃ r,floatBits .quo .f64 x y=some (wrd (sB x^^sB y) r)/\r<=9218868437227405312:=⟨_,jL C t d i rfl rfl rfl rfl (Nat.le_refl _),Nat.min_le_right _ _⟩;have e:(cn (floatBits .quo .f64 x y):Int)=gB (sgB u^^sgB v)+(r:Int):=by rw [I,ar,dW,m,l]
       rw [e];exact AB x y r u v _ _ w p n h k C t d i s F G I E rfl j f hi g (o _ (decide_eq_false d)) (q _ (decide_eq_false i))
end Go.Proofs.YtfdddijdjpijbaaGreat
