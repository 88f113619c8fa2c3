/-  -/
import Derived.Test.YtfdddijdjpijbaaGreatHax
set_option maxHeartbeats 1600000
set_option maxRecDepth 10000
namespace Go.Proofs.YtfdddijdjpijbaaGreat
open Go.RowKit
theorem uJ {c:Nat} (h:c<9223372036854775808):c^^^9223372036854775808=9223372036854775808+c:=by
 rw [show (9223372036854775808:Nat)=2^63 from rfl] at *
 apply Nat.eq_of_testBit_eq;intro i;rw [Nat.testBit_xor,Nat.testBit_two_pow]
 by_cases d:i=63
 ·subst d;rw [Nat.testBit_two_pow_add_eq];simp
 ·by_cases b:i<63
  ·have e:decide (63=i)=false:=by rw [decide_eq_false_iff_not];omega
   rw [Nat.testBit_two_pow_add_gt b,e,Bool.xor_false]
  ·have f:c.testBit i=false:=Nat.testBit_lt_two_pow (Nat.lt_of_lt_of_le h (Nat.pow_le_pow_right (by decide) (by omega)))
   have a:(2^63+c).testBit i=false:=Nat.testBit_lt_two_pow (Nat.lt_of_lt_of_le (show 2^63+c<2^64 by omega) (Nat.pow_le_pow_right (by decide) (by omega)))
   have e:decide (63=i)=false:=by rw [decide_eq_false_iff_not];omega
   rw [f,a,e];rfl
def flipN (x:Nat):Nat:=if x<9223372036854775808 then 9223372036854775808+x else x - 9223372036854775808
theorem sQ {b:Nat} (h:b<18446744073709551616):b^^^9223372036854775808=flipN b:=by
 unfold flipN
 by_cases a:b<9223372036854775808
 ·rw [if_pos a,uJ a]
 ·rw [if_neg a];obtain⟨c,rfl⟩:∃ c,b=9223372036854775808+c:=⟨b - 9223372036854775808,by omega⟩
  rw [<- uJ (c:=c) (by omega),Nat.xor_assoc,Nat.xor_self,Nat.xor_zero]
  have:=uJ (c:=c) (by omega)
  omega
theorem cz {x:Nat} (h:x<18446744073709551616):flipN x<18446744073709551616/\flipN x % 9223372036854775808=x % 9223372036854775808/\(flipN x / 9223372036854775808 % 2==1)=!(x / 9223372036854775808 % 2==1):=by
 unfold flipN
 by_cases a:x<9223372036854775808
 ·rw [if_pos a];refine⟨by omega,by omega,?_⟩
  rw [show (9223372036854775808+x) / 9223372036854775808=1 by omega,show x / 9223372036854775808=0 by omega];rfl
 ·rw [if_neg a];refine⟨by omega,by omega,?_⟩
  rw [show (x - 9223372036854775808) / 9223372036854775808=0 by omega,show x / 9223372036854775808=1 by omega];rfl
theorem xf {x y:Nat} (h:y<18446744073709551616) (hn:ah (y:Int)=false):floatBits .add .f64 x (flipN y)=floatBits .sub .f64 x y:=by
 obtain⟨_,a,d⟩:=cz h;have f:=eN hn;have e:Ieee.double.read (flipN y)=(Ieee.double.read y).opposite:=by
  by_cases c:y % 9223372036854775808<9218868437227405312
  ·rw [ay (b:=flipN y) (by rw [a];exact c),ay c,a,d];rfl
  ·rw [aS (b:=flipN y) (by rw [a];omega),aS (b:=y) (by omega),d];rfl
 show ((Ieee.double.read x).sum (Ieee.double.read (flipN y))).map Ieee.double.write=((Ieee.double.read x).sum (Ieee.double.read y).opposite).map Ieee.double.write
 rw [e]
theorem fB (y:Nat) (v z:Int) (w:World) (b:Hid (v=(y:Int))) (h:U64 v) (d:Hid (z=(flipN y:Int))) :
  Calls Tryz.prog 34 #[.int .u64 v] w fun e c=>e=.returned (.int .u64 z)/\w=c:=by
 have f:bits .xor .u64 v 9223372036854775808=z:=by
  have a:y<18446744073709551616:=by have:=h.2;rw [b.out] at this;omega
  have:=bits_xor_u64_nat y 9223372036854775808 a (by decide)
  rw [show ((9223372036854775808:Nat):Int)=9223372036854775808 from rfl,sQ a] at this
  rw [b.out,d.out];exact this
 go_enter Tryz.func34,Tryz.ntmps34
 go_wp2
 go_ret
 exact⟨rfl,rfl⟩
theorem kF (x y:Nat) (u v:Int) (w:World) (p:Hid (u=(x:Int))) (k:Hid (v=(y:Int))) (h:U64 u) (g:U64 v) :
  Calls Tryz.prog 35 #[.int .u64 u,.int .u64 v] w fun e d=>e=.returned (.int .u64 (cn (floatBits .sub .f64 x y):Int))/\Below w.heap.size w d:=by
 have c:y<18446744073709551616:=by have:=g.2;rw [k.out] at this;omega
 obtain⟨b,a⟩:∃ b:Int,(cn (floatBits .sub .f64 x y):Int)=b:=⟨_,rfl⟩;rw [a];have j:=hideS (aj v · g);cases f:ah v with
 | true=>
  rw [f] at j
  have n:Hid ((9221120237041090561:Int)=b):=by show _=_;rw [<- a,eR (by rw [<- k.out];exact f)];rfl
  clear h g f a
  go_enter Tryz.func35,Tryz.ntmps35
  go_wp2_with fail
  refine (turned (j.out _)).mono ?_
  rintro e d ⟨rfl,rfl⟩
  go_wp2_with fail
  go_ret
  exact⟨bu n.out,Below.refl _ _⟩
 | false=>
  rw [f] at j
  obtain⟨z,i⟩:∃ z:Int,z=(flipN y:Int):=⟨_,rfl⟩;have q:=hideS fun w=>fB y v z w k g i
  have m:Hid (∀ w,Calls Tryz.prog 50 #[.int .u64 u,.int .u64 z] w fun e d=>e=.returned (.int .u64 b)/\Below w.heap.size w d):=fun w=>by
   have:=fA x (flipN y) u z w p i h (by rw [i];exact ag (cz c).1)
   rw [xf c (by rw [<- k.out];exact f),a] at this;exact this
  clear h g f a i
  go_enter Tryz.func35,Tryz.ntmps35
  go_wp2_with fail
  refine (turned (j.out _)).mono ?_
  rintro e d ⟨rfl,rfl⟩
  go_wp2_with fail
  refine (q.out _).mono ?_
  rintro e d ⟨rfl,rfl⟩
  go_wp2_with fail
  refine (m.out _).mono ?_
  rintro e r ⟨rfl,l⟩;have o:=hideS l;clear l
  go_wp2_with fail
  go_ret
  exact⟨rfl,o.out⟩
theorem Hw (n:Int):bJ (decide (n<0)) n.natAbs 0 false=(fi n:Int):=by
 unfold fi aJ
 by_cases b:n=0
 ·subst b;rw [if_pos rfl];rfl
 ·rw [if_neg b,fw _ _ (by omega)]
  by_cases a:n<0
  ·rw [if_pos a,decide_eq_true a];simp only [if_true];omega
  ·rw [if_neg a,decide_eq_false a];simp
theorem cV (n:Int) (w:World) (t: -9223372036854775808<=n) (y:n<=9223372036854775807) :
  Calls Tryz.prog 101 #[.int .i64 n] w fun e o=>e=.returned (.int .u64 (fi n:Int))/\Below w.heap.size w o:=by
 obtain⟨i,a⟩:∃ i:Int,(fi n:Int)=i:=⟨_,rfl⟩;rw [a];rw [<- Hw] at a
 obtain⟨m,b⟩:∃ m,decide (n<0)=m:=⟨_,rfl⟩;have z:Hid (∀ w,Calls Tryz.prog 62 #[.int .i64 n] w fun x o=>∃ v,x=.returned (.agg #[.bool m,v,.int .i64 0])/\DN o v n.natAbs/\Below w.heap.size w o):=fun w=>by rw [<- b];exact jI n w t y
 rw [b] at a
 have g:=hideS a;have q:nd n.natAbs<=1000000:=Nat.le_trans (bL (k:=2) (by omega)) (by omega)
 clear b a
 go_enter Tryz.func101,Tryz.ntmps101
 go_wp2_with fail
 refine (z.out _).mono ?_
 rintro x u ⟨A,rfl,d,h⟩;obtain⟨p,l,c,rfl⟩:=d.shape;have s:=hideS h;have f:=hideS (gv m _ 0 n.natAbs u d q (by omega) (by omega))
 rw [g.out] at f
 clear d h
 go_wp2_with fail
 refine f.out.mono ?_
 rintro x B ⟨rfl,j⟩;have r:=hideS (s.out.trans (j.mono s.out.size));clear j
 go_wp2_with fail
 go_ret
 exact⟨rfl,r.out⟩
theorem gC (u v:Int) (b:Bool) (w:World) (h:U64 u) (j:U64 v) (hn:ah u=false) (d:ah v=false) (k:decide (ae u<ae v)=b) :
  Calls Tryz.prog 60 #[.int .u64 u,.int .u64 v] w fun e f=>e=.returned (.bool b)/\w=f:=by
 have g:=hideS fun w=>turned (fM u w h)
 have i:=hideS fun w=>turned (fM v w j)
 rw [hn] at g
 rw [d] at i
 generalize ae u=a at *
 generalize ae v=c at *
 clear hn d h j
 go_enter Tryz.func60,Tryz.ntmps60
 go_wp2_with fail
 refine (g.out _).mono ?_
 rintro e f ⟨rfl,rfl⟩
 go_wp2_with fail
 refine (i.out _).mono ?_
 rintro e f ⟨rfl,rfl⟩
 go_wp2_with fail
 go_ret
 exact⟨rfl,rfl⟩
theorem lA {S k F E:Int} (g:0<E) (f:k*E<=S) (e:S<(k+1)*E) (h:F*E<=S) (d:S<(F+1)*E):k=F:=by
 have a:k<F+1:=by
  by_cases c:k<F+1
  ·exact c
  ·have:=Int.mul_le_mul_of_nonneg_right (show F+1<=k by omega) (show 0<=E by omega);omega
 have b:F<k+1:=by
  by_cases c:F<k+1
  ·exact c
  ·have:=Int.mul_le_mul_of_nonneg_right (show k+1<=F by omega) (show 0<=E by omega);omega
 omega
def uK (neg:Bool) (q:Nat) (a:Bool):Int:=if neg then (if a then -(q:Int) - 1 else -(q:Int)) else (q:Int)
theorem uL {neg:Bool} {N P:Nat} (b:0<P):uK neg (N / P) (decide (N % P≠0))*(P:Int)<=sg neg N/\sg neg N<(uK neg (N / P) (decide (N % P≠0))+1)*(P:Int):=by
 have d:=Nat.div_add_mod N P;have c:N % P<P:=Nat.mod_lt _ b;have e:((P*(N / P):Nat):Int)=(N / P:Nat)*(P:Int):=by rw [Int.natCast_mul,Int.mul_comm]
 generalize N / P=q at *
 generalize N % P=r at *
 generalize P*q=t at *
 unfold uK sg;cases neg
 ·simp only [Bool.false_eq_true,if_false];rw [Int.add_mul,Int.one_mul];omega
 ·simp only [if_true]
  by_cases a:r=0
  ·rw [show decide (r≠0)=false by simpa using a]
   simp only [Bool.false_eq_true,if_false];rw [Int.add_mul,Int.one_mul,Int.neg_mul];omega
  ·rw [show decide (r≠0)=true by simpa using a]
   simp only [if_true];rw [Int.add_mul,Int.one_mul,Int.sub_mul,Int.one_mul,Int.neg_mul];omega
theorem xg (t:Nat) (v k:Int) (K:Nat) (w:World) (hv:Hid (v=(t:Int))) (h:U64 v) (ht:af t) (hK:K=1074) (E:k*((2^K:Nat):Int)<=vI t) (B:vI t<(k+1)*((2^K:Nat):Int)) (k1: -2000<=k) (k2:k<=2000) :
  Calls Tryz.prog 102 #[.int .u64 v] w fun e w'=>e=.returned (.int .i64 k)/\Below w.heap.size w w':=by
 have HO:=hideS fun w=>eC t v w hv h ht
 have HF:Hid (∀ neg N e,OfR t neg N e->(N=0->k=0)/\(N≠0->∃ P:Nat,e= -(P:Int)/\1<=P/\P<=1074/\k=uK neg (N / 2^P) (decide (N % 2^P≠0)))):=fun neg N e M=>by
  have hp:(0:Int)<((2^K:Nat):Int):=by have:=Nat.two_pow_pos K;omega
  have f:vI t=sg neg N*((2^(e+1074).toNat:Nat):Int):=by
   rw [wX,<- M.val,ip]
   by_cases g:N=0
   ·rw [g,aT,aT]
   ·rw [M.sgn g]
  constructor
  ·intro g;rw [g,aT,Int.zero_mul] at f
   rw [f] at E B
   exact lA hp E B (by rw [Int.zero_mul];exact Int.le_refl _) (by rw [Int.zero_add,Int.one_mul];exact hp)
  ·intro g;have bi:=M.lo;have ba:e<0:=by
    obtain⟨m1,m2⟩:=M.mag g
    by_cases c:e<0
    ·exact c
    ·exfalso
     have V:1074<=pl (t % 9223372036854775808):=by omega
     have Y:4503599627370496<=N:=by rw [m1];exact CA (by unfold pl at V;omega)
     have hb:(vI t).natAbs=N*2^(e+1074).toNat:=by rw [f,Int.natAbs_mul,bF,Int.natAbs_natCast]
     have ab:2^K<=2^(e+1074).toNat:=Nat.pow_le_pow_right (by decide) (by omega)
     have h5:4503599627370496*2^K<=N*2^(e+1074).toNat:=Nat.mul_le_mul Y ab;have h6:=Int.mul_le_mul_of_nonneg_right k1 (show 0<=((2^K:Nat):Int) by omega)
     have h7:=Int.mul_le_mul_of_nonneg_right (show k+1<=2001 by omega) (show 0<=((2^K:Nat):Int) by omega)
     generalize N*2^(e+1074).toNat=a at *
     generalize 2^K=b at *
     generalize (k+1)*(b:Int)=c1 at *
     generalize k*(b:Int)=c2 at *
     omega
   refine⟨(-e).toNat,by omega,by omega,by omega,?_⟩
   have al:(2^K:Nat)=2^(-e).toNat*2^(e+1074).toNat:=by rw [<- Nat.pow_add];congr 1;omega
   have hq:(0:Int)<((2^(e+1074).toNat:Nat):Int):=by have:=Nat.two_pow_pos (e+1074).toNat;omega
   have W:0<2^(-e).toNat:=Nat.two_pow_pos _;rw [al,Int.natCast_mul,<- Int.mul_assoc,f] at E B
   obtain⟨f1,f2⟩:=uL (neg:=neg) (N:=N) W;exact lA (by omega) (Int.le_of_mul_le_mul_right E hq) (Int.lt_of_mul_lt_mul_right B (by omega)) f1 f2
 clear h ht E B
 go_enter Tryz.func102,Tryz.ntmps102
 go_wp2_with fail
 refine (HO.out _).mono ?_
 rintro r O ⟨neg,vx,N,e,rfl,n,R,o⟩;obtain⟨p,l,c,rfl⟩:=n.shape;obtain⟨X,Z⟩:=HF.out neg N e R;have m:=hideS (aE O neg (.slice p l c) e);have u:=hideS (n.below m.out);have i:=hideS (o.trans (m.out.mono o.size));have F:=hideS R.lt;clear R n o HO HF
 go_wp2_with fail
 by_cases g:N=0
 ·have z:=X g;clear X Z;refine (aZ _ _ _ N true _ u.out (decide_eq_true g)).mono ?_
  rintro r w2 ⟨rfl,d⟩;have j:=hideS (i.out.trans (d.mono i.out.size));have HK:=hideS z;clear d z g
  go_wp2_with fail
  go_ret
  exact⟨bu HK.out.symm,j.out⟩
 ·obtain⟨P,W,T,S,z⟩:=Z g;clear X Z;have ak:N / 2^P<9007199254740992:=Nat.lt_of_le_of_lt (Nat.div_le_self _ _) F.out;refine (aZ _ _ _ N false _ u.out (decide_eq_false g)).mono ?_
  rintro r w2 ⟨rfl,d⟩;obtain⟨c0,c1,c2⟩:=jH d;have ai:O.heap.size<w2.heap.size:=by have:=d.size;simp at this;omega
  have j:=hideS (i.out.trans (d.mono i.out.size));have he:e<0:=by omega
  have bc: -1074<=e:=by omega
  have G:Hid (-e=(P:Int)):=by show _=_;omega
  have D:=hideS (gY (.slice p l c) N P (-e) w2 (u.out.below d) (by have:=dr F.out;omega) G)
  have h3:=gW (K:=N / 2^P) (by omega)
  have b0:=bw (N / 2^P) 0;have b1:dgt (N / 2^P) 1<=2097152:=by omega
  obtain⟨y,I⟩:∃ y:Int,(dgt (N / 2^P) 0:Int)=y:=⟨_,rfl⟩;obtain⟨x,H⟩:∃ x:Int,(dgt (N / 2^P) 1:Int)=x:=⟨_,rfl⟩;obtain⟨Q,hQ⟩:∃ Q:Int,((N / 2^P:Nat):Int)=Q:=⟨_,rfl⟩;have am:y+x*4294967296=Q:=by omega
  have d0:0<=y/\y<4294967296:=by omega
  have d1:0<=x/\x<=2097152:=by omega
  have U:0<=Q/\Q<9007199254740992:=by omega
  have HK:Hid (k=if neg then (if bP N P then -Q - 1 else -Q) else Q):=by
   show _=_
   rw [<- hQ];exact z
  have J:=hideS I;have A:=hideS H;clear d z g W T S h3 b0 b1 I H hQ ak G;obtain⟨bk,bo⟩:=d0;obtain⟨bh,bs⟩:=d1;obtain⟨br,bb⟩:=U
  go_wp2_with fail
  refine D.out.mono ?_
  rintro r w3 ⟨v3,rfl,L,q⟩;have ad:=hideS (j.out.trans (q.mono j.out.size));have e0:w3.cell? ⟨O.heap.size,0,none⟩=some (.bool neg):=(q.cell (p:=⟨O.heap.size,0,none⟩) ai).trans c0;have s:=hideS L;clear q L c0 c1 c2 D;generalize bP N P=C at HK ⊢
  go_wp2_with fail
  refine (turned (fq v3 (N / 2^P) 0 0 y _ s.out rfl J)).mono ?_
  rintro r w' ⟨rfl,rfl⟩
  go_wp2_with fail
  refine (turned (fq v3 (N / 2^P) 1 1 x _ s.out rfl A)).mono ?_
  rintro r w' ⟨rfl,rfl⟩;clear s J A;cases neg<;>cases C
  all_goals
   go_wp2_with fail
   go_ret
   exact⟨bu HK.out.symm,ad.out⟩
end Go.Proofs.YtfdddijdjpijbaaGreat
namespace Go.Proofs.YtfdddijdjpijbaaGreat
theorem lC {M s:Nat} {p:Int} (a:M≠0) (h:s+54<=M.log2):nearR (bK M s false) (s+p)=nearR M p:=by
 obtain⟨c,_⟩:=cT false (show s<=M.log2 by omega) a
 have e:an (bK M s false) (s+p)=an M p:=by
  unfold an;rw [c];congr 1;omega
 have f:(s:Int)+p+2<=an M p:=by unfold an;omega
 unfold nearR;rw [e];obtain⟨d,l⟩:∃ d:Nat,an M p=s+p+d:=⟨(an M p - (s+p)).toNat,by omega⟩
 have g:((s:Int)+p - an M p).toNat=0:=by omega
 have k:(p - an M p).toNat=0:=by omega
 have b:(an M p - (s+p)).toNat=d:=by omega
 have i:(an M p - p).toNat=d+s:=by omega
 rw [g,k,b,i,Nat.pow_zero,Nat.mul_one,Nat.mul_one];have j:bK M s false=(if M % 2^s=0 then M / 2^s else (if M / 2^s % 2=1 then M / 2^s else M / 2^s+1)):=by unfold bK;simp only [and_true]
 rw [j,kz (by omega)]
def aP (X Y k:Nat):Nat:=2*(X*2^k / Y)+(if X*2^k % Y=0 then 0 else 1)
theorem Ia {q e T:Nat} {t:Nat} (f:T=2^t) (k:e<2*T):bK (2*q*T+e) t false=2*q+(if e=0 then 0 else 1):=by
 have b:0<T:=by rw [f];exact Nat.two_pow_pos t
 unfold bK;rw [<- f];have g:(2*q*T+e) / T=2*q+e / T:=by rw [Nat.add_comm,Nat.add_mul_div_right _ _ b,Nat.add_comm]
 have j:(2*q*T+e) % T=e % T:=by rw [Nat.add_comm,Nat.add_mul_mod_self_right]
 rw [g,j]
 by_cases a:e=0
 ·rw [a,Nat.zero_mod,Nat.zero_div,if_pos ⟨rfl,rfl⟩,if_pos rfl]
 ·rw [if_neg a]
  by_cases d:e<T
  ·rw [Nat.mod_eq_of_lt d,Nat.div_eq_of_lt d,if_neg (fun h=>a h.1),if_neg (by omega)]
  ·have i:e / T=1:=by
    have:=Nat.div_lt_iff_lt_mul b (x:=e) (y:=2);have c:e / T<2:=this.2 k;have l:1<=e / T:=(Nat.one_le_div_iff b).2 (by omega)
    omega
   rw [i]
   by_cases c:e % T=0/\(false:Bool)=false
   ·rw [if_pos c]
   ·rw [if_neg c,if_pos (by omega)]
theorem sR {X Y:Nat} (k t:Nat) (d:0<Y):bK (aP X Y (k+t)) t false=aP X Y k:=by
 obtain⟨T,e⟩:∃ T,T=2^t:=⟨_,rfl⟩;have m:0<T:=by rw [e];exact Nat.two_pow_pos t
 unfold aP;rw [Nat.pow_add,<- Nat.mul_assoc,<- e];generalize X*2^k=A;have n:=Nat.div_add_mod A Y;have p:A % Y<Y:=Nat.mod_lt _ d;generalize A / Y=q at *
 generalize A % Y=r at *
 have a:A*T=r*T+Y*(q*T):=by rw [<- n,Nat.add_mul,Nat.mul_assoc,Nat.add_comm]
 have v:A*T / Y=q*T+r*T / Y:=by rw [a,Nat.add_mul_div_left _ _ d,Nat.add_comm]
 have z:A*T % Y=r*T % Y:=by rw [a,Nat.add_mul_mod_self_left]
 rw [v,z];have B:r*T / Y<T:=by rw [Nat.div_lt_iff_lt_mul d,Nat.mul_comm T];exact Nat.mul_lt_mul_of_pos_right p m
 have u:=Nat.div_add_mod (r*T) Y;have i:r=0↔r*T=0:=by
  constructor
  ·intro h;rw [h,Nat.zero_mul]
  ·intro h;rcases Nat.mul_eq_zero.1 h with h | h<;>omega
 have o:2*(q*T+r*T / Y)+(if r*T % Y=0 then 0 else 1)=2*q*T+(2*(r*T / Y)+(if r*T % Y=0 then 0 else 1)):=by rw [Nat.mul_add,<- Nat.mul_assoc,Nat.add_assoc]
 rw [o];generalize r*T / Y=c at *
 generalize r*T % Y=s at *
 generalize r*T=j at *
 rw [Ia e (by split<;>omega)]
 congr 1
 by_cases b:r=0
 ·have x:j=0:=i.1 b;have y:s=0:=by omega
  have w:c=0:=by
   by_cases f:c=0
   ·exact f
   ·have:=Nat.mul_pos d (show 0<c by omega);omega
  rw [if_pos b,if_pos (by rw [y,w];rfl)]
 ·have x:j≠0:=fun h=>b (i.2 h)
  rw [if_neg b,if_neg];intro h
  by_cases l:s=0
  ·rw [if_pos l] at h
   have g:c=0:=by omega
   rw [g,Nat.mul_zero] at u;omega
  ·rw [if_neg l] at h;omega
theorem jc {X Y a c:Nat} {p:Int} (n:0<Y) (q:a<=c) (f:54<=(aP X Y a).log2):nearR (aP X Y a) (p - a)=nearR (aP X Y c) (p - c):=by
 obtain⟨t,rfl⟩:∃ t,c=a+t:=⟨c - a,by omega⟩
 have d:=sR (X:=X) a t n;obtain⟨M,i⟩:∃ M,aP X Y (a+t)=M:=⟨_,rfl⟩;rw [i] at d ⊢
 have e:aP X Y a≠0:=by intro h;rw [h] at f;exact absurd f (by decide)
 have r:=Nat.log2_self_le e;have o:(2:Nat)^54<=2^(aP X Y a).log2:=Nat.pow_le_pow_right (by decide) f
 have l:bK M t false<=M / 2^t+1:=by unfold bK;split;omega;split<;>omega
 have j:1<=M / 2^t:=by rw [d] at l;omega
 have g:2^t<=M:=(Nat.one_le_div_iff (Nat.two_pow_pos _)).1 j;have b:M≠0:=by have:=Nat.two_pow_pos t;omega
 have k:t<=M.log2:=(Nat.le_log2 b).2 g;have m:=(cT false k b).1;rw [d] at m
 have:=lC (M:=M) (s:=t) (p:=p - ((a+t:Nat):Int)) b (by omega)
 rw [d,show (t:Int)+(p - ((a+t:Nat):Int))=p - a by omega] at this
 exact this
theorem jd {X Y k:Nat} (b:X≠0) (g:Y≠0) (f:54+Y.log2<=X.log2+k):9007199254740992<=X*2^k / Y/\54<=(aP X Y k).log2:=by
 have c:=Nat.log2_self_le b;have d:Y<2^(Y.log2+1):=Nat.lt_log2_self;have e:9007199254740992<=X*2^k / Y:=by
  rw [Nat.le_div_iff_mul_le (by omega)]
  refine Nat.le_trans (Nat.mul_le_mul_left _ (Nat.le_of_lt d)) ?_
  refine Nat.le_trans ?_ (Nat.mul_le_mul_right _ c)
  rw [show (9007199254740992:Nat)=2^53 from rfl,<- Nat.pow_add,<- Nat.pow_add]
  exact Nat.pow_le_pow_right (by decide) (by omega)
 refine⟨e,?_⟩
 have a:2^54<=aP X Y k:=by unfold aP;omega
 exact (Nat.le_log2 (by have:=Nat.two_pow_pos 54;omega)).2 a
theorem Az {N d:Nat} (l:1<=d):nu N d true=rne (2*N+1) (d+1):=by
 unfold nu rne;have m:=Nat.two_pow_pos d;have g:(2*N+1) / 2^(d+1)=N / 2^d:=by
  rw [Nat.pow_succ,Nat.mul_comm (2^d) 2,<- Nat.div_div_eq_div_mul];congr 1;omega
 have j:(2*N+1) % 2^(d+1)=2*(N % 2^d)+1:=by
  have a:=Nat.div_add_mod (2*N+1) (2^(d+1));have b:=Nat.div_add_mod N (2^d);rw [g,Nat.pow_succ] at a
  have c:2^d*2*(N / 2^d)=2*(2^d*(N / 2^d)):=by rw [Nat.mul_comm (2^d) 2,Nat.mul_assoc]
  rw [Nat.pow_succ];omega
 rw [g,j]
 congr 1
 obtain⟨k,rfl⟩:∃ k,d=k+1:=⟨d - 1,by omega⟩
 rw [Nat.add_sub_cancel];have e:N % 2^(k+1)=N % 2^k+2^k*(N / 2^k % 2):=by rw [Nat.pow_succ,Nat.mod_mul]
 have i:=Nat.two_pow_pos k;have h:N % 2^k<2^k:=Nat.mod_lt _ i;rw [e,Nat.pow_succ,Nat.pow_succ];rcases (show N / 2^k % 2=0\/N / 2^k % 2=1 by omega) with f | f
 ·rw [f,if_neg (by omega),if_neg (by omega)]
 ·rw [f,Nat.mul_one,if_pos ⟨rfl,Or.inr (Or.inl rfl)⟩,if_pos (Or.inl (by omega))]
theorem Ib (neg:Bool) {a b:Nat} (h:min a 9218868437227405312=b):cw neg (a:Int)=cw neg (b:Int):=by
 unfold cw;cases neg<;>simp only [Bool.false_eq_true,if_true,if_false]<;>omega
theorem Mh (neg:Bool) {r:Nat} (h:r<=9218868437227405312):cw neg (r:Int)=gB neg+(r:Int):=by
 unfold cw gB;cases neg<;>simp only [Bool.false_eq_true,if_true,if_false]<;>omega
theorem kG (neg more:Bool) {N:Nat} (e:Int) (n:9007199254740992<=N):bJ neg N e more=gB neg+(nearR (2*N+(if more then 1 else 0)) (e - 1):Int):=by
 have b:N≠0:=by omega
 cases more with
 | false=>
  have g:(2*N+(if (false:Bool)=true then 1 else 0))=2*N:=rfl
  rw [fw neg e b,g];have:=bf b 1 e;rw [Nat.pow_one,Nat.mul_comm] at this
  rw [show e - 1=e - ((1:Nat):Int) from rfl,this];rfl
 | true=>
  rw [if_pos rfl];have a:(2*N+1).log2=N.log2+1:=by
   rw [Nat.log2_def,if_pos (by omega),show (2*N+1) / 2=N by omega]
  have h:53<=N.log2:=(Nat.le_log2 b).2 (by omega)
  have d:=eA b;have j:an (2*N+1) (e - 1)=an N e:=by unfold an;rw [a];congr 1;omega
  have l:aL N e=an N e:=by unfold aL an;rw [d];omega
  have k:e<an N e:=by unfold an;omega
  have f:(if jZ N e=true then if 0<e\/0<(bl N:Int)+e then cw neg 9218868437227405312 else cw neg 0 else cw neg (rnd53 N e true))=cw neg (nearR (2*N+1) (e - 1)):=by
   cases c:jZ N e
   ·simp only [Bool.false_eq_true,if_false];have m:min (rnd53 N e true) 9218868437227405312=nearR (2*N+1) (e - 1):=by
     unfold rnd53 kv nearR;rw [j,l,if_neg (by omega),Az (by omega),show (e - 1 - an N e).toNat=0 by omega,Nat.pow_zero,Nat.mul_one,show (an N e - (e - 1)).toNat=(an N e - e).toNat+1 by omega]
    exact Ib neg m
   ·simp only [if_true];unfold jZ at c
    rw [Bool.or_eq_true,decide_eq_true_eq,decide_eq_true_eq] at c
    rcases c with c | c
    ·rw [if_pos (Or.inr (by omega)),jC (by omega) (by omega)];rfl
    ·have i:bl (2*N+1)=bl N+1:=by rw [eA (by omega),a,d]
     rw [if_neg (by omega),pg (by omega) (by rw [i];omega)];rfl
  unfold bJ;rw [if_neg b,f];exact Mh neg (Nat.min_le_right _ _)
end Go.Proofs.YtfdddijdjpijbaaGreat
namespace Go.Proofs.YtfdddijdjpijbaaGreat
open Go.RowKit
theorem Mi (A i j r:Nat) (a:i=32*j+r) (c:r<32):dgt A j / 2^r % 2=A / 2^i % 2:=by
 unfold dgt;have e:A / 2^i=A / 2^(32*j) / 2^r:=by rw [Nat.div_div_eq_div_mul,<- Nat.pow_add,<- a]
 rw [e];generalize A / 2^(32*j)=M;have b:(4294967296:Nat)=2^r*2^(32 - r):=by rw [<- Nat.pow_add,show r+(32 - r)=32 by omega]
 rw [b,Nat.mod_mul_right_div_self];refine Nat.mod_mod_of_dvd _ ?_
 rw [show 32 - r=(31 - r)+1 by omega,Nat.pow_succ]
 exact Nat.dvd_mul_left 2 _
theorem Mj {A B i R b:Nat} (g:0<B) (h:R=A / 2^(i+1) % B) (m:b=A / 2^i % 2) :
  (B<=R*2+b->A / 2^i % B=R*2+b - B/\A / 2^i / B*2^i=A / 2^(i+1) / B*2^(i+1)+2^i)/\
  (R*2+b<B->A / 2^i % B=R*2+b/\A / 2^i / B*2^i=A / 2^(i+1) / B*2^(i+1)):=by
 have e:A / 2^(i+1)=A / 2^i / 2:=by rw [Nat.div_div_eq_div_mul,<- Nat.pow_succ]
 rw [e] at h ⊢
 generalize A / 2^i=M at *
 have l:=Nat.div_add_mod (M / 2) B;have k:M / 2 % B<B:=Nat.mod_lt _ g;rw [<- h] at l k
 generalize M / 2 / B=q at *
 have j:q*2^(i+1)=2*q*2^i:=by rw [Nat.pow_succ,<- Nat.mul_assoc,Nat.mul_comm,<- Nat.mul_assoc]
 rw [j];refine⟨fun c=>?_,fun c=>?_⟩
 ·have a:M=(R*2+b - B)+B*(2*q+1):=by
   have:B*(2*q+1)=2*(B*q)+B:=by rw [Nat.mul_add,Nat.mul_one,Nat.mul_left_comm]
   omega
  have f:M % B=R*2+b - B:=by rw [a,Nat.add_mul_mod_self_left,Nat.mod_eq_of_lt (by omega)]
  have d:M / B=2*q+1:=by rw [a,Nat.add_mul_div_left _ _ g,Nat.div_eq_of_lt (by omega),Nat.zero_add]
  rw [f,d,Nat.add_mul,Nat.one_mul];exact⟨rfl,rfl⟩
 ·have a:M=(R*2+b)+B*(2*q):=by
   have:B*(2*q)=2*(B*q):=by rw [Nat.mul_left_comm]
   omega
  have f:M % B=R*2+b:=by rw [a,Nat.add_mul_mod_self_left,Nat.mod_eq_of_lt (by omega)]
  have d:M / B=2*q:=by rw [a,Nat.add_mul_div_left _ _ g,Nat.div_eq_of_lt (by omega),Nat.zero_add]
  rw [f,d];exact⟨rfl,rfl⟩
theorem Mk {Q i j r:Nat} (g:i=32*j+r) (k:r<32) :
  dgt (Q*2^(i+1)) j+2^r<4294967296/\ka (Q*2^(i+1)) j (dgt (Q*2^(i+1)) j+2^r)=Q*2^(i+1)+2^i:=by
 constructor
 ·unfold dgt;have e:Q*2^(i+1)=Q*2^(r+1)*2^(32*j):=by rw [Nat.mul_assoc,<- Nat.pow_add];congr 2;omega
  have a:(4294967296:Nat)=2^(31 - r)*2^(r+1):=by rw [<- Nat.pow_add,show 31 - r+(r+1)=32 by omega]
  rw [e,Nat.mul_div_cancel _ (Nat.two_pow_pos _)];have c:Q*2^(r+1) % 4294967296=(Q % 2^(31 - r))*2^(r+1):=by rw [a,Nat.mul_mod_mul_right]
  have b:Q % 2^(31 - r)<2^(31 - r):=Nat.mod_lt _ (Nat.two_pow_pos _);have d:(Q % 2^(31 - r)+1)*2^(r+1)<=2^(31 - r)*2^(r+1):=Nat.mul_le_mul_right _ b;rw [<- a,Nat.add_mul,Nat.one_mul,Nat.pow_succ] at d
  rw [c,Nat.pow_succ];have f:=Nat.two_pow_pos r;omega
 ·have h:=pu (Q*2^(i+1)) j (dgt (Q*2^(i+1)) j+2^r);rw [Nat.add_mul,<- Nat.pow_add,show r+32*j=i by omega] at h
  omega
theorem bM {A B:Nat} {v:Value} (h:From B v) (b:A<=B):From A v:=fun a l c e=>Nat.le_trans b (h a l c e)
theorem dt {w:World} {v:Value} {N:Nat} (h:DN w v N):∃ p l c,v=.slice p l c:=by obtain⟨p,c,e⟩:=h.form;exact⟨p,_,c,e⟩
theorem iq {w a:World} {b n M s:Nat} (h:Own w b n M) (i:b<s) (f:Below s w a):Own a b n M:=by
 obtain⟨c,e,d,g⟩:=h;exact⟨c,by rw [f.block b i];exact e,d,g⟩
theorem OB (N:Nat):bl N<=32*nd N:=by
 unfold bl nd
 by_cases h:N=0
 ·rw [if_pos h];omega
 ·rw [if_neg h,if_neg h];omega
theorem OC (w:World):DN (w.alloc (.cells #[.int .u64 1] 41)) (.slice (some ⟨w.heap.size,0,none⟩) 1 1) 1:=by
 refine Or.inr ⟨by decide,w.heap.size,1,by rw [show nd 1=1 by decide],by decide,by simp,fun i hi=>?_⟩
 rw [show nd 1=1 by decide] at hi
 rw [show i=0 by omega]
 simp
 decide
theorem sa (g c n L A B:Nat) (vb:Value) (w:World) (bc:Hid (RowIs w g n A)) (hg:g<w.heap.size) (cu:A≠0) (al:Hid (nd A=n)) (df:n<=c) (hL:Hid (bl A=L)) (ea:L<=32*n) (hB:DN w vb B) (cx:0<B) (hn:n<=10000) (ec:nd B<=10000) :
  Calls Tryz.prog 96 #[.slice (some ⟨g,0,none⟩) n c,vb] w fun e F=>∃ q r,e=.returned (.tuple #[q,r])/\DN F q (A / B)/\DN F r (A % B)/\From w.heap.size q/\From w.heap.size r/\Below w.heap.size w F:=by
 have di:=fun w=>run_make_row' (P:=Tryz.prog) 33 41 (.int .u64 0) 8 Tryz.underlying33 dT rfl .i64 .i64 n (by omega) (by omega) w
 have HO:=aa (oY w n);have bz:Hid (Below w.heap.size w (w.alloc (.cells (madeCells #[.int .u64 0] n) 41))):=(Below.refl _ _).alloc (Nat.le_refl _) _;have dx:Hid (DN w (.slice (some ⟨g,0,none⟩) n c) A):=Or.inr ⟨cu,g,c,by rw [al.out],by rw [al.out];exact df,hg,by rw [al.out];exact bc.out⟩
 have cp:Hid (∀ F,Below w.heap.size w F->Calls Tryz.prog 95 #[.slice (some ⟨g,0,none⟩) n c] F fun e dc=>e=.returned (.int .i64 (L:Int))/\F=dc):=fun F hb=>by
  have:=oA _ A F (dx.out.below hb) (by rw [al.out];omega)
  rw [hL.out] at this
  exact this.mono fun _ _ ⟨a,b⟩=>⟨a,b.symm⟩
 have HB:=aa hB;have ct:Hid (A<2^L):=by
  show A<2^L
  rw [<- hL.out];unfold bl;rw [if_neg cu];exact Nat.lt_log2_self
 clear hB
 go_enter Tryz.func96,Tryz.ntmps96
 go_wp2_with fail
 refine (cp.out _ bz.out).mono ?_
 rintro e F ⟨rfl,rfl⟩
 go_wp2_with fail
 go_loopw [6,8] (fun v i wr=>∃ k:Nat,k<=L/\i=.int .i64 ((k:Int) - 1)/\Hid (DN wr v (A / 2^k % B))/\Hid (From (w.heap.size+1) v)/\Hid (Own wr w.heap.size n (A / 2^k / B*2^k))/\Hid (Below w.heap.size w wr)) (fun _ i _=>(intOf i+1).toNat)
 case atStart=>
  have e:A / 2^L=0:=Nat.div_eq_of_lt ct.out;exact⟨L,Nat.le_refl _,rfl,by rw [e,Nat.zero_mod];exact Or.inl ⟨rfl,_,_,rfl⟩,gu _,by rw [e,Nat.zero_div,Nat.zero_mul];exact HO,bz⟩
 case round=>
  clear HO di bz;obtain⟨k,hk,rfl,HD,cq,f,E⟩:=hrel;cases k with
  | zero=>
   rw [Nat.pow_zero,Nat.div_one] at HD f
   rw [Nat.mul_one] at f
   have hM:Hid (A / B<2^(32*n)):=Nat.lt_of_le_of_lt (Nat.div_le_self _ _) (by rw [<- al.out];exact cZ A)
   have cs:=f.out.lt;have HQ:=aa (nv f.out.row hM.out (Nat.le_refl _) cs)
   go_wp2_with fail
   refine (dq _ _ _ _ _ f.out.row hM.out (Nat.le_refl _) (by omega)).mono ?_
   rintro e F ⟨rfl,rfl⟩
   go_wp2_with fail
   go_ret2
   exact⟨_,_,rfl,HQ.out,HD.out,gX _ _ _ _ (Nat.le_refl _),bM cq.out (by omega),E.out⟩
  | succ i=>
   have hz:w.heap.size<wr.heap.size:=f.out.lt;obtain⟨R,hR⟩:∃ R,R=A / 2^(i+1) % B:=⟨_,rfl⟩;rw [<- hR] at HD
   obtain⟨pv,cv,rfl⟩:=HD.out.form;have dp:R<B:=by rw [hR];exact Nat.mod_lt _ cx
   have dg:Hid (nd R<=10000000):=by
    have h1:R<2^(32*nd B):=Nat.lt_trans dp (cZ B);have:=bL h1
    show nd R<=10000000
    omega
   obtain⟨b,hb⟩:∃ b,b=A / 2^i % 2:=⟨_,rfl⟩;have M:=aa (Mj cx hR hb);obtain⟨S,hS⟩:∃ S,R*2+b=S:=⟨_,rfl⟩;rw [hS] at M
   have eb:S<2*B:=by
    have:b<2:=by rw [hb];exact Nat.mod_lt _ (by decide)
    omega
   have Z:Hid (nd S<=10000000):=by
    have h1:S<2^(32*(nd B+1)):=by
     have:=cZ B;rw [gr];omega
    have:=bL h1
    show nd S<=10000000
    omega
   obtain⟨j,r,br,hr⟩:∃ j r,i=32*j+r/\r<32:=⟨i / 32,i % 32,by omega,by omega⟩
   have bs:j<n:=by omega
   have hq:(i:Int) / 32=j:=by omega
   have cy:(i:Int) % 32=r:=by omega
   have dY:=aa br;have cd:=bc.out j bs;have cl:wr.cell? ⟨g,j,none⟩=some (.int .u64 (dgt A j:Int)):=(E.out.cell (p:=⟨g,j,none⟩) hg).trans (bc.out j bs);have V:((dgt A j:Int) / 2^r).tmod 2=b:=by
    have:=Mi A i j r br hr;rw [<- hb] at this
    rw [<- this];have e1:((2:Int)^r)=((2^r:Nat):Int):=by rw [Int.natCast_pow];rfl
    rw [e1,<- Int.natCast_ediv,Int.tmod_eq_emod_of_nonneg (Int.natCast_nonneg _)];rfl
   have ai:=aa (Mk (Q:=A / 2^(i+1) / B) br hr);have dE:=bw A j;generalize dgt A j=D at cl V dE
   have cr:Hid (Calls Tryz.prog 97 #[.slice pv (nd R) cv,.int .i64 1] wr fun e F=>∃ v,e=.returned v/\DN F v (R*2)/\From wr.heap.size v/\Below wr.heap.size wr F):=iX _ R 1 wr HD.out dg.out (by omega)
   have dn:b=0/\R*2=S\/b=1/\R*2+1=S:=by
    have:b<2:=by rw [hb];exact Nat.mod_lt _ (by decide)
    omega
   clear hR hb HD cq hS br cd;generalize nd R=lR at *
   have dy:((i+1:Nat):Int) - 1=i:=by omega
   rw [dy]
   go_wp2_with fail
   refine cr.out.mono ?_
   rintro e O ⟨v1,rfl,N,ak,X⟩;obtain⟨p1,l1,c1,rfl⟩:=dt N;have da:O.cell? ⟨g,j,none⟩=some (.int .u64 (D:Int)):=(X.cell (p:=⟨g,j,none⟩) (Nat.lt_of_lt_of_le hg E.out.size)).trans cl;have db:wr.heap.size<=O.heap.size:=X.size;have bv:=aa X;clear X cr cl;rcases dn with⟨rfl,hS⟩| ⟨rfl,hS⟩
   ·have dd:(((D:Int) / 2^r).tmod 2==1)=false:=by rw [V];rfl
    clear V;rw [hS] at N
    have C:=aa N;have am:=aa ak;clear N ak hS
    go_wp2_with fail
    have y:=bv
    by_cases hc:B<=S
    ·obtain⟨t,ht,ds⟩:∃ t:Int,mB S B=t/\0<=t:=by
      rcases Nat.lt_or_eq_of_le hc with h | h
      ·exact⟨1,lk h,by decide⟩
      ·exact⟨0,lj h.symm,by decide⟩
     have m:=aa (E.out.trans (y.out.mono E.out.size));have u:Hid (Calls Tryz.prog 115 #[.slice p1 l1 c1,vb] O fun e F=>e=.returned (.int .i64 t)/\∃ q,F=O.drewN q):=by
      rw [<- ht];exact cL _ _ S B O C.out (HB.out.below m.out) Z.out
     refine u.out.mono ?_
     rintro e w3 ⟨rfl,q3,H⟩;have s:Hid (Below O.heap.size O w3):=by rw [H];exact below_drewN (Below.refl _ _) _
     have l:=aa (m.out.trans (s.out.mono m.out.size));have G:=aa (dQ _ _ S B w3 (C.out.below s.out) (HB.out.below l.out) Z.out hc);obtain⟨I,K⟩:=M.out.1 hc;rw [<- I] at G
     have ca:=aa K;clear ht I K H u
     go_wp2_with fail
     refine G.out.mono ?_
     rintro e w4 ⟨v4,rfl,ad,bk,Y⟩;obtain⟨p4,l4,c4,rfl⟩:=dt ad;have z:=aa (y.out.trans (s.out.mono y.out.size));have U:=aa (z.out.trans (Y.mono z.out.size));have W:=aa (l.out.trans (Y.mono l.out.size));have T:=aa (iq f.out hz U.out);have ho:=T.out.cell (i:=j) bs;have fo:=T.out.frozen j;obtain⟨ab,J⟩:=ai.out;rw [<- ca.out] at J
     have bi:=aa ad;have ba:=aa (bM bk (show wr.heap.size<=_ from z.out.size))
     obtain⟨o,bh⟩:∃ o,dgt (A / 2^(i+1) / B*2^(i+1)) j=o:=⟨_,rfl⟩;rw [bh] at ho ab J
     obtain⟨P,hP⟩:∃ P,2^r=P:=⟨_,rfl⟩;have wp:=oZ hr;rw [hP] at wp ab J
     have e1:((2:Int)^r)=(P:Int):=by rw [<- hP,Int.natCast_pow];rfl
     have ws:IntKind.u64.wrap ((o:Int)+(P:Int))=((o+P:Nat):Int):=by rw [IntKind.wrap_u64];omega
     have td:(i:Int).tdiv 32=j:=by rw [Int.tdiv_eq_ediv_of_nonneg (by omega)];exact hq
     have tm:(i:Int).tmod 32=r:=by rw [Int.tmod_eq_emod_of_nonneg (by omega)];exact cy
     have jn:(j:Int)<(n:Int):=by omega
     have bo:=aa J;clear ad bk Y bh hP J ai M f s m l G C am E bv y
     go_wp2_with fail
     go_region
     have cc:=aa (bi.out.set (bM ba.out hz) (a:=⟨w.heap.size,j,none⟩) (Nat.lt_succ_self _) (.int .u64 ((o:Int)+(P:Int))));have bb:=aa (Own.put (j:=j) (d:=o+P) (x:=(o:Int)+(P:Int)) T.out (by omega) ab)
     rw [bo.out] at bb
     have ci:=aa (W.out.setCell (p:=⟨w.heap.size,j,none⟩) (Nat.le_refl _) (.int .u64 ((o:Int)+(P:Int)))).drew;clear T bi W U z bo
     go_wp2_with fail
     go_roundw
     case rel=>exact⟨i,by omega,rfl,cc,bM ba.out hz,bb,ci⟩
     case measure=>simp [intOf]
    ·obtain⟨I,K⟩:=M.out.2 (by omega)
     have m:=aa (E.out.trans (y.out.mono E.out.size));have u:Hid (Calls Tryz.prog 115 #[.slice p1 l1 c1,vb] O fun e F=>e=.returned (.int .i64 (-1))/\∃ q,F=O.drewN q):=by
      rw [<- li (show S<B by omega)];exact cL _ _ S B O C.out (HB.out.below m.out) Z.out
     have HO:=aa f.out;rw [<- K] at HO
     rw [<- I] at C
     refine u.out.mono ?_
     rintro e w3 ⟨rfl,q3,H⟩;have s:Hid (Below O.heap.size O w3):=by rw [H];exact below_drewN (Below.refl _ _) _
     have l:=aa (m.out.trans (s.out.mono m.out.size));have cm:=aa (C.out.below s.out);have cf:=aa (iq HO.out hz ((y.out.trans (s.out.mono y.out.size))));clear I K H u HO f s m
     go_wp2_with fail
     go_roundw
     case rel=>exact⟨i,by omega,rfl,cm,bM am.out (by omega),cf,l⟩
     case measure=>simp [intOf]
   ·have dd:(((D:Int) / 2^r).tmod 2==1)=true:=by rw [V];rfl
    clear V;have bx:Hid (Calls Tryz.prog 114 #[.slice p1 l1 c1,.slice (some ⟨O.heap.size,0,none⟩) 1 1] (O.alloc (.cells #[.int .u64 1] 41)) fun e F=>∃ v,e=.returned v/\DN F v S/\From O.heap.size v/\Below O.heap.size O F):=by
     have hb:=(Below.refl O.heap.size O).alloc (Nat.le_refl _) (.cells #[.int .u64 1] 41);have h2:=Z.out;have h3:nd (R*2)<=10000000:=Nat.le_trans (bL (Nat.lt_of_le_of_lt (show R*2<=S by omega) (cZ S))) h2
     have:=ki _ _ (R*2) 1 _ (N.below hb) (OC O) h3 (by decide)
     rw [hS] at this
     exact this.mono fun _ _ ⟨v,a,b,c,d⟩=>⟨v,a,b,bM c (by simp),hb.trans (d.mono (by simp))⟩
    clear N ak hS
    go_wp2_with fail
    refine bx.out.mono ?_
    rintro e w2 ⟨v2,rfl,N,ak,X⟩;obtain⟨p2,l2,c2,rfl⟩:=dt N;have C:=aa N;have am:=aa (bM ak db);have dk:=aa (bv.out.trans (X.mono db));clear N ak X bx da
    go_wp2_with fail
    have y:=dk
    by_cases hc:B<=S
    ·obtain⟨t,ht,ds⟩:∃ t:Int,mB S B=t/\0<=t:=by
      rcases Nat.lt_or_eq_of_le hc with h | h
      ·exact⟨1,lk h,by decide⟩
      ·exact⟨0,lj h.symm,by decide⟩
     have m:=aa (E.out.trans (y.out.mono E.out.size));have u:Hid (Calls Tryz.prog 115 #[.slice p2 l2 c2,vb] w2 fun e F=>e=.returned (.int .i64 t)/\∃ q,F=w2.drewN q):=by
      rw [<- ht];exact cL _ _ S B w2 C.out (HB.out.below m.out) Z.out
     refine u.out.mono ?_
     rintro e w3 ⟨rfl,q3,H⟩;have s:Hid (Below w2.heap.size w2 w3):=by rw [H];exact below_drewN (Below.refl _ _) _
     have l:=aa (m.out.trans (s.out.mono m.out.size));have G:=aa (dQ _ _ S B w3 (C.out.below s.out) (HB.out.below l.out) Z.out hc);obtain⟨I,K⟩:=M.out.1 hc;rw [<- I] at G
     have ca:=aa K;clear ht I K H u
     go_wp2_with fail
     refine G.out.mono ?_
     rintro e w4 ⟨v4,rfl,ad,bk,Y⟩;obtain⟨p4,l4,c4,rfl⟩:=dt ad;have z:=aa (y.out.trans (s.out.mono y.out.size));have U:=aa (z.out.trans (Y.mono z.out.size));have W:=aa (l.out.trans (Y.mono l.out.size));have T:=aa (iq f.out hz U.out);have ho:=T.out.cell (i:=j) bs;have fo:=T.out.frozen j;obtain⟨ab,J⟩:=ai.out;rw [<- ca.out] at J
     have bi:=aa ad;have ba:=aa (bM bk (show wr.heap.size<=_ from z.out.size))
     obtain⟨o,bh⟩:∃ o,dgt (A / 2^(i+1) / B*2^(i+1)) j=o:=⟨_,rfl⟩;rw [bh] at ho ab J
     obtain⟨P,hP⟩:∃ P,2^r=P:=⟨_,rfl⟩;have wp:=oZ hr;rw [hP] at wp ab J
     have e1:((2:Int)^r)=(P:Int):=by rw [<- hP,Int.natCast_pow];rfl
     have ws:IntKind.u64.wrap ((o:Int)+(P:Int))=((o+P:Nat):Int):=by rw [IntKind.wrap_u64];omega
     have td:(i:Int).tdiv 32=j:=by rw [Int.tdiv_eq_ediv_of_nonneg (by omega)];exact hq
     have tm:(i:Int).tmod 32=r:=by rw [Int.tmod_eq_emod_of_nonneg (by omega)];exact cy
     have jn:(j:Int)<(n:Int):=by omega
     have bo:=aa J;clear ad bk Y bh hP J ai M f s m l G C am E bv y
     go_wp2_with fail
     go_region
     have cc:=aa (bi.out.set (bM ba.out hz) (a:=⟨w.heap.size,j,none⟩) (Nat.lt_succ_self _) (.int .u64 ((o:Int)+(P:Int))));have bb:=aa (Own.put (j:=j) (d:=o+P) (x:=(o:Int)+(P:Int)) T.out (by omega) ab)
     rw [bo.out] at bb
     have ci:=aa (W.out.setCell (p:=⟨w.heap.size,j,none⟩) (Nat.le_refl _) (.int .u64 ((o:Int)+(P:Int)))).drew;clear T bi W U z bo
     go_wp2_with fail
     go_roundw
     case rel=>exact⟨i,by omega,rfl,cc,bM ba.out hz,bb,ci⟩
     case measure=>simp [intOf]
    ·obtain⟨I,K⟩:=M.out.2 (by omega)
     have m:=aa (E.out.trans (y.out.mono E.out.size));have u:Hid (Calls Tryz.prog 115 #[.slice p2 l2 c2,vb] w2 fun e F=>e=.returned (.int .i64 (-1))/\∃ q,F=w2.drewN q):=by
      rw [<- li (show S<B by omega)];exact cL _ _ S B w2 C.out (HB.out.below m.out) Z.out
     have HO:=aa f.out;rw [<- K] at HO
     rw [<- I] at C
     refine u.out.mono ?_
     rintro e w3 ⟨rfl,q3,H⟩;have s:Hid (Below w2.heap.size w2 w3):=by rw [H];exact below_drewN (Below.refl _ _) _
     have l:=aa (m.out.trans (s.out.mono m.out.size));have cm:=aa (C.out.below s.out);have cf:=aa (iq HO.out hz ((y.out.trans (s.out.mono y.out.size))));clear I K H u HO f s m
     go_wp2_with fail
     go_roundw
     case rel=>exact⟨i,by omega,rfl,cm,bM am.out (by omega),cf,l⟩
     case measure=>simp [intOf]
theorem sb (v f:Value) (A B:Nat) (w:World) (i:DN w v A) (k:DN w f B) (b:A≠0) (d:0<B) (m:nd A<=10000) (n:nd B<=10000) :
  Calls Tryz.prog 96 #[v,f] w fun e h=>∃ q r,e=.returned (.tuple #[q,r])/\DN h q (A / B)/\DN h r (A % B)/\From w.heap.size q/\From w.heap.size r/\Below w.heap.size w h:=by
 rcases i with⟨a,_⟩| ⟨a,g,c,rfl,o,j,l⟩
 ·exact absurd a b
 ·exact sa g c (nd A) (bl A) A B f w l j a rfl o rfl (OB A) k d m n
theorem je (nx z mo:Bool) (vx vy:Value) (ex ey y:Int) (X Y k lr:Nat) (w:World) (hX:DN w vx X) (hY:DN w vy Y) (K:X≠0) (am:Y≠0) (ad:nd X<=300) (O:nd Y<=100)
  (he: -10000<=ex) (bv:ex<=10000) (hf: -10000<=ey) (bx:ey<=10000) (hk:max 0 (70 - (bl X:Int)+(bl Y:Int))=(k:Int)) (M:Hid (nd (X*2^k % Y)=lr)) (ca:decide (0<lr)=mo) (q:Hid (bJ nx (X*2^k / Y) (ex - k - ey) mo=y)) :
  Calls Tryz.prog 61 #[.agg #[.bool nx,vx,.int .i64 ex],.agg #[.bool z,vy,.int .i64 ey]] w fun x a=>x=.returned (.int .u64 y)/\Below w.heap.size w a:=by
 have bi:=sE X;have al:=sE Y;have bs:k<=10000:=by omega
 obtain⟨c,e,d,rfl⟩:=dt hX;obtain⟨o,f,g,rfl⟩:=dt hY;have v:Hid (Below w.heap.size w (boxN (boxN w nx (.slice c e d) ex) z (.slice o f g) ey)):=(aE w nx (.slice c e d) ex).trans ((aE (boxN w nx (.slice c e d) ex) z (.slice o f g) ey).mono (by simp))
 have HZ:=aa (gw w nx (.slice c e d) ex z (.slice o f g) ey);have L:=aa (uC w nx (.slice c e d) ex z (.slice o f g) ey);have HX:=aa fun a (hb:Below w.heap.size w a)=>hX.below hb
 have HY:=aa fun a (hb:Below w.heap.size w a)=>hY.below hb
 have ba:=aa K;have S:Hid (X*2^k≠0):=by
  have:=Nat.mul_pos (show 0<X by omega) (Nat.two_pow_pos k)
  show X*2^k≠0
  omega
 have t:Hid (nd (X*2^k)<=10000):=by
  have h1:X*2^k<2^(32*nd X)*2^k:=Nat.mul_lt_mul_of_pos_right (cZ X) (Nat.two_pow_pos _);rw [<- Nat.pow_add] at h1
  have:=bL (N:=X*2^k) (k:=nd X+k / 32+1) (Nat.lt_of_lt_of_le h1 (Nat.pow_le_pow_right (by decide) (by omega)))
  show nd (X*2^k)<=10000
  omega
 have I:Hid (nd (X*2^k / Y)<=1000000):=by
  have:=bL (Nat.lt_of_le_of_lt (Nat.div_le_self (X*2^k) Y) (cZ (X*2^k)));have h2:=t.out
  show nd (X*2^k / Y)<=1000000
  omega
 have ab:Hid (0<Y):=by show 0<Y;omega
 have H:=aa ad;have C:=aa O;obtain⟨i,E⟩:∃ i:Int,(bl X:Int)=i:=⟨_,rfl⟩;obtain⟨r,D⟩:∃ r:Int,(bl Y:Int)=r:=⟨_,rfl⟩;rw [E,D] at hk
 have b1:0<=i:=by omega
 have b2:i<=9600:=by omega
 have b3:0<=r:=by omega
 have b4:r<=3200:=by omega
 have V:=aa E;have P:=aa D;have f1:IntKind.i64.wrap (70 - i)=70 - i:=by rw [IntKind.wrap_i64];omega
 have f2:IntKind.i64.wrap (70 - i+r)=70 - i+r:=by rw [IntKind.wrap_i64];omega
 have f3:IntKind.i64.wrap (ex - (k:Int))=ex - (k:Int):=by rw [IntKind.wrap_i64];omega
 have f4:IntKind.i64.wrap (ex - (k:Int) - ey)=ex - (k:Int) - ey:=by rw [IntKind.wrap_i64];omega
 clear hX hY K am E D bi al ad O
 go_enter Tryz.func61,Tryz.ntmps61
 go_wp2_with fail
 refine (aZ _ _ _ X false _ (HX.out _ v.out) (decide_eq_false ba.out)).mono ?_
 rintro x w1 ⟨rfl,h⟩;have G:=aa (L.out.below h (by rw [HZ.out];omega))
 have ak:w.heap.size+2<=w1.heap.size:=by have h9:=h.size;rw [HZ.out] at h9;exact h9
 have j:=aa (v.out.trans (h.mono v.out.size));obtain⟨c0,c1,c2,c3,c4,c5⟩:=G.out;clear h
 go_wp2_with fail
 go_quiet ((first | (go_at_call_of 95 (Value.slice c e d);exact Calls.quiet_of_same (mA (.slice c e d) X i _ (HX.out _ (below_drewN j.out _)) (by have:=H.out;omega) V)) | (go_at_call_of 95 (Value.slice o f g);exact Calls.quiet_of_same (mA (.slice o f g) Y r _ (HY.out _ (below_drewN j.out _)) (by have:=C.out;omega) P))))
 obtain⟨p,b⟩:∃ p,p=w1.drewN nq:=⟨_,rfl⟩;rw [<- b];have l:Hid (Six p w.heap.size nx (.slice c e d) ex z (.slice o f g) ey):=by rw [b];exact G.out
 have bo:w.heap.size+2<=p.heap.size:=by rw [b];exact ak
 have B:Hid (Below w.heap.size w p):=by rw [b];exact below_drewN j.out _
 clear b c0 c1 c2 c3 c4 c5 G j ak L V P hk;obtain⟨d0,d1,d2,d3,d4,d5⟩:=l.out;have R:=aa (iX (.slice c e d) X k p.drew (HX.out _ B.out.drew) (by have:=H.out;omega) (by omega))
 go_wp2_with fail
 go_region_held3 (fun a=>a.cell? ⟨w.heap.size,0,none⟩=some (.bool nx)/\a.cell? ⟨w.heap.size,1,none⟩=some (.slice c e d)/\a.cell? ⟨w.heap.size,2,none⟩=some (.int .i64 ex)/\a.cell? ⟨w.heap.size+1,0,none⟩=some (.bool z)/\a.cell? ⟨w.heap.size+1,1,none⟩=some (.slice o f g)/\a.cell? ⟨w.heap.size+1,2,none⟩=some (.int .i64 ey)) (first | exact l.out | exact s.out | exact u.out | go_keep) (first | ((go_at_call 97;refine R.out.mono ?_;rintro x w3 ⟨v3,rfl,W,bb,m⟩;have s:=aa (Six.below (w:=p.drew) l.out m (show w.heap.size+1<p.heap.size by omega));have n:=aa (B.out.drew.trans (m.mono (show w.heap.size<=p.heap.size by omega)));have bz:w.heap.size+2<=w3.heap.size:=Nat.le_trans bo m.size;have Z:=aa W;clear W bb m)) | ((go_at_call 96;refine (sb _ (.slice o f g) (X*2^k) Y w3 Z.out (HY.out _ n.out) S.out ab.out t.out (by have:=C.out;omega)).mono ?_;rintro x w4 ⟨vq,vr,rfl,F,T,br,bh,A⟩;have u:=aa (Six.below s.out A (show w.heap.size+1<w3.heap.size by omega));have Q:=aa (n.out.trans (A.mono n.out.size));obtain⟨pq,lq,cq,rfl⟩:=dt F;obtain⟨pr,cr,ai⟩:=T.form;rw [M.out] at ai;subst ai;have U:=aa F;clear F T br bh A)))
 clear d0 d1 d2 d3 d4 d5;obtain⟨d0,d1,d2,d3,d4,d5⟩:=u.out;have bc:Hid (Calls Tryz.prog 98 #[.agg #[.bool nx,.slice pq lq cq,.int .i64 (ex - (k:Int) - ey)],.bool mo] w4 fun x a=>x=.returned (.int .u64 y)/\Below w4.heap.size w4 a):=by
  rw [<- q.out];exact lh nx mo (.slice pq lq cq) (ex - (k:Int) - ey) (X*2^k / Y) w4 U.out I.out (by omega) (by omega)
 clear l s u n B R Z HX HY U S t I ab H C q M f1 f2 f3 f4
 go_wp2_with fail
 refine bc.out.mono ?_
 rintro x w5 ⟨rfl,J⟩;have bk:=aa (Q.out.trans (J.mono Q.out.size));clear J
 go_wp2_with fail
 go_ret
 exact⟨rfl,bk.out⟩
theorem xh {x y:Nat} (h:(x % 9223372036854775808=9218868437227405312/\y % 9223372036854775808=9218868437227405312)\/(x % 9223372036854775808=0/\y % 9223372036854775808=0)):floatBits .quo .f64 x y=none:=by
 show ((Ieee.double.read x).quotient 54 (Ieee.double.read y)).map Ieee.double.write=_
 rcases h with⟨a,b⟩| ⟨a,b⟩
 ·rw [aS a,aS b];rfl
 ·rw [ay (by omega),ay (by omega),a,b];rfl
theorem CM {x y:Nat} (b:x % 9223372036854775808=9218868437227405312) (a:af y):floatBits .quo .f64 x y=some (wrd (sB x^^sB y) 9218868437227405312):=by
 show ((Ieee.double.read x).quotient 54 (Ieee.double.read y)).map Ieee.double.write=_
 rw [aS b,ay a]
 show some (Ieee.double.write (.infinity _))=_
 rw [dJ];rfl
theorem nC {x y:Nat} (d:af x) (a:x % 9223372036854775808≠0) (e:y % 9223372036854775808=0):floatBits .quo .f64 x y=some (wrd (sB x^^sB y) 9218868437227405312):=by
 have c:=fy a
 show ((Ieee.double.read x).quotient 54 (Ieee.double.read y)).map Ieee.double.write=_
 rw [ay d,ay (b:=y) (by omega),e,show mg 0=0 by decide]
 show (if mg (x % 9223372036854775808)=0 then none else some (Ieee.Datum.infinity (_^^_))).map Ieee.double.write=_
 rw [if_neg c]
 show some (Ieee.double.write (.infinity _))=_
 rw [dJ];rfl
theorem AA (s:Bool) (i:Int):Ieee.double.write (.number s 0 i)=wrd s 0:=by
 show Ieee.double.nearest s 0 i=_
 rw [cE,ic]
theorem pK {x y:Nat} (b:af x) (a:y % 9223372036854775808=9218868437227405312):floatBits .quo .f64 x y=some (wrd (sB x^^sB y) 0):=by
 show ((Ieee.double.read x).quotient 54 (Ieee.double.read y)).map Ieee.double.write=_
 rw [ay b,aS a]
 show some (Ieee.double.write (.number _ 0 0))=_
 rw [AA];rfl
theorem sS (s t:Bool) (m n:Nat) (i j:Int) (hn:n≠0):((Ieee.Datum.number s m i).quotient 54 (.number t n j)).map Ieee.double.write=some (Ieee.double.nearest (s^^t) (2*(m*2^(54+n.log2 - m.log2) / n)+(m*2^(54+n.log2 - m.log2) % n !=0).toNat) (i - j - ((54+n.log2 - m.log2:Nat):Int) - 1)):=by
 show (if n=0 then _ else some (Ieee.Datum.number (s^^t) (2*((m <<< (54+n.log2 - m.log2)) / n)+((m <<< (54+n.log2 - m.log2)) % n !=0).toNat) (i - j - ((54+n.log2 - m.log2:Nat):Int) - 1))).map Ieee.double.write=_
 rw [if_neg hn,Nat.shiftLeft_eq]
 rfl
theorem pL {x y:Nat} (d:x % 9223372036854775808=0) (e:af y) (a:y % 9223372036854775808≠0):floatBits .quo .f64 x y=some (wrd (sB x^^sB y) 0):=by
 have c:=fy a
 show ((Ieee.double.read x).quotient 54 (Ieee.double.read y)).map Ieee.double.write=_
 rw [ay (b:=x) (by omega),ay e,d,sS _ _ _ _ _ _ c,show mg 0=0 by decide,Nat.zero_mul,Nat.zero_div,Nat.zero_mod]
 show some (Ieee.double.nearest _ 0 _)=_
 rw [cE,ic];rfl
theorem Ml (X Y k:Nat):2*(X*2^k / Y)+(X*2^k % Y !=0).toNat=aP X Y k:=by
 unfold aP
 congr 1
 by_cases h:X*2^k % Y=0
 ·rw [if_pos h,h];rfl
 ·rw [if_neg h,show (X*2^k % Y !=0)=true by simpa using h];rfl
theorem jL {x y:Nat} (l:af x) (n:af y) (j:x % 9223372036854775808≠0) (o:y % 9223372036854775808≠0) {X Y:Nat} {ex ey:Int} (g:X=mg (x % 9223372036854775808)) (i:Y=mg (y % 9223372036854775808)) (f:ex= -1074+(pl (x % 9223372036854775808):Int)) (e:ey= -1074+(pl (y % 9223372036854775808):Int)) {k:Nat} (m:54+Y.log2 - X.log2<=k) :
  floatBits .quo .f64 x y=some (wrd (sB x^^sB y) (nearR (aP X Y k) (ex - ey - 1 - k))):=by
 have c:X≠0:=by rw [g];exact fy j
 have a:Y≠0:=by rw [i];exact fy o
 show ((Ieee.double.read x).quotient 54 (Ieee.double.read y)).map Ieee.double.write=_
 rw [ay l,ay n,<- g,<- i,<- f,<- e,sS _ _ _ _ _ _ a,Ml];have b:=jd c a (k:=54+Y.log2 - X.log2) (by omega)
 have d:aP X Y (54+Y.log2 - X.log2)≠0:=by intro h;rw [h] at b;exact absurd b.2 (by decide)
 rw [bR _ d,ic];have:=jc (X:=X) (Y:=Y) (p:=ex - ey - 1) (by omega) m b.2
 rw [<- this,show ex - ey - ((54+Y.log2 - X.log2:Nat):Int) - 1=ex - ey - 1 - ((54+Y.log2 - X.log2:Nat):Int) by omega]
 rfl
theorem ir (u v:Int) (w:World) (h:U64 u) (b:U64 v) (hc:ah u=true\/(ah u=false/\ah v=true)\/(ah u=false/\ah v=false/\aY u=true/\aY v=true)\/(ah u=false/\ah v=false/\aY u=false/\(szI u==0)=true/\(szI v==0)=true)) :
  Calls Tryz.prog 144 #[.int .u64 u,.int .u64 v] w fun e a=>e=.returned (.int .u64 9221120237041090561)/\a=w:=by
 have i:=uG h b;rcases hc with c | ⟨c,d⟩| ⟨c,d,g,f⟩| ⟨c,d,g,f,j⟩
 all_goals
  go_enter Tryz.func144,Tryz.ntmps144
  go_wp2_with (first | (go_at_call_of 49 (Value.int IntKind.u64 u);refine (aj u _ h).mono ?_;rintro e a ⟨rfl,rfl⟩) | (go_at_call_of 49 (Value.int IntKind.u64 v);refine (aj v _ b).mono ?_;rintro e a ⟨rfl,rfl⟩) | (go_at_call_of 72 (Value.int IntKind.u64 u);refine (aw u _ h).mono ?_;rintro e a ⟨rfl,rfl⟩) | (go_at_call_of 72 (Value.int IntKind.u64 v);refine (aw v _ b).mono ?_;rintro e a ⟨rfl,rfl⟩) | (go_at_call_of 76 (Value.int IntKind.u64 u);refine (aI u _ h).mono ?_;rintro e a ⟨rfl,rfl⟩) | (go_at_call_of 76 (Value.int IntKind.u64 v);refine (aI v _ b).mono ?_;rintro e a ⟨rfl,rfl⟩))
  go_ret
  exact⟨rfl,rfl⟩
theorem pM (u v S:Int) (w:World) (h:U64 u) (b:U64 v) (j:bits .and .u64 (bits .xor .u64 u v) 9223372036854775808=S) (i:0<=S) (f:S<=9223372036854775808) (hn:ah u=false) (c:ah v=false) (k:(szI u==0)=false) (hc:(aY u=true/\aY v=false)\/(aY u=false/\(szI v==0)=true)) :
  Calls Tryz.prog 144 #[.int .u64 u,.int .u64 v] w fun e a=>e=.returned (.int .u64 (S+9218868437227405312))/\a=w:=by
 rcases hc with⟨g,d⟩| ⟨g,d⟩
 all_goals
  go_enter Tryz.func144,Tryz.ntmps144
  go_wp2_with (first | (go_at_call_of 49 (Value.int IntKind.u64 u);refine (aj u _ h).mono ?_;rintro e a ⟨rfl,rfl⟩) | (go_at_call_of 49 (Value.int IntKind.u64 v);refine (aj v _ b).mono ?_;rintro e a ⟨rfl,rfl⟩) | (go_at_call_of 72 (Value.int IntKind.u64 u);refine (aw u _ h).mono ?_;rintro e a ⟨rfl,rfl⟩) | (go_at_call_of 72 (Value.int IntKind.u64 v);refine (aw v _ b).mono ?_;rintro e a ⟨rfl,rfl⟩) | (go_at_call_of 76 (Value.int IntKind.u64 u);refine (aI u _ h).mono ?_;rintro e a ⟨rfl,rfl⟩) | (go_at_call_of 76 (Value.int IntKind.u64 v);refine (aI v _ b).mono ?_;rintro e a ⟨rfl,rfl⟩))
  go_ret
  exact⟨rfl,rfl⟩
theorem jf (u v S:Int) (w:World) (h:U64 u) (b:U64 v) (g:bits .and .u64 (bits .xor .u64 u v) 9223372036854775808=S) (hn:ah u=false) (f:ah v=false) (hi:aY u=false) (i:(szI v==0)=false) (hc:(aY v=true/\(szI u==0)=true)\/(aY v=true/\(szI u==0)=false)\/(aY v=false/\(szI u==0)=true)) :
  Calls Tryz.prog 144 #[.int .u64 u,.int .u64 v] w fun e a=>e=.returned (.int .u64 S)/\a=w:=by
 rcases hc with⟨d,c⟩| ⟨d,c⟩| ⟨d,c⟩
 all_goals
  go_enter Tryz.func144,Tryz.ntmps144
  go_wp2_with (first | (go_at_call_of 49 (Value.int IntKind.u64 u);refine (aj u _ h).mono ?_;rintro e a ⟨rfl,rfl⟩) | (go_at_call_of 49 (Value.int IntKind.u64 v);refine (aj v _ b).mono ?_;rintro e a ⟨rfl,rfl⟩) | (go_at_call_of 72 (Value.int IntKind.u64 u);refine (aw u _ h).mono ?_;rintro e a ⟨rfl,rfl⟩) | (go_at_call_of 72 (Value.int IntKind.u64 v);refine (aw v _ b).mono ?_;rintro e a ⟨rfl,rfl⟩) | (go_at_call_of 76 (Value.int IntKind.u64 u);refine (aI u _ h).mono ?_;rintro e a ⟨rfl,rfl⟩) | (go_at_call_of 76 (Value.int IntKind.u64 v);refine (aI v _ b).mono ?_;rintro e a ⟨rfl,rfl⟩))
  go_ret
  exact⟨rfl,rfl⟩
theorem lD {r:Nat} (h:V r=0):r=0:=by
 have:=eX (r:=r) (s:=0);rw [bp] at this
 exact this.1 h
theorem Mm (s:Bool) {r:Nat} (h:r<=9218868437227405312):U64 (gB s+(r:Int))/\szI (gB s+(r:Int))=r:=by
 unfold gB U64 szI;cases s<;>simp only [Bool.false_eq_true,if_true,if_false]<;>omega
theorem gD (x:Nat):x % 9223372036854775808 % 9223372036854775808=x % 9223372036854775808:=Nat.mod_mod _ _
theorem Ic {x y X Y k:Nat} {nx:Bool} {ex ey:Int} (s:OfR (x % 9223372036854775808) nx X ex) {o:Bool} (u:OfR (y % 9223372036854775808) o Y ey) (g:af x) (i:af y) (p:x % 9223372036854775808≠0) (v:y % 9223372036854775808≠0) (b:X≠0) (a:Y≠0) (A:max 0 (70 - (bl X:Int)+(bl Y:Int))=(k:Int)) (more:Bool) (c:decide (0<nd (X*2^k % Y))=more) :
  ∃ r:Nat,r<=9218868437227405312/\floatBits .quo .f64 x y=some (wrd (sB x^^sB y) r)/\U64 (bJ nx (X*2^k / Y) (ex - k - ey) more)/\szI (bJ nx (X*2^k / Y) (ex - k - ey) more)=r:=by
 obtain⟨n,j⟩:=s.mag b;obtain⟨l,m⟩:=u.mag a;rw [gD] at n j l m
 have z:=eA b;have t:=eA a;have h:54+Y.log2 - X.log2<=k:=by omega
 have q:=jL g i p v n l j m h;have w:=jd b a (k:=k) (by omega)
 refine⟨nearR (aP X Y k) (ex - ey - 1 - (k:Int)),Nat.min_le_right _ _,q,?_⟩
 rw [kG nx more _ w.1];have e:2*(X*2^k / Y)+(if more=true then 1 else 0)=aP X Y k:=by
  unfold aP
  congr 1
  by_cases f:X*2^k % Y=0
  ·rw [f] at c
   rw [if_pos f,<- c];rfl
  ·have:=dm f;rw [if_neg f,<- c,if_pos (decide_eq_true (show 0<nd (X*2^k % Y) from this))]
 rw [e,show ex - (k:Int) - ey - 1=ex - ey - 1 - (k:Int) by omega]
 have d:nearR (aP X Y k) (ex - ey - 1 - (k:Int))<=9218868437227405312:=Nat.min_le_right _ _;generalize nearR (aP X Y k) (ex - ey - 1 - (k:Int))=r at d
 exact Mm nx d
theorem AB (x y r:Nat) (u v S R:Int) (w:World) (hu:Hid (u=(x:Int))) (hv:Hid (v=(y:Int))) (h:U64 u) (W:U64 v) (hx:af x) (hy:af y) (h0:Hid (x % 9223372036854775808≠0)) (h1:Hid (y % 9223372036854775808≠0)) (hS:bits .and .u64 (bits .xor .u64 u v) 9223372036854775808=S) (bb:0<=S) (bh:S<=9223372036854775808) (hr:Hid (floatBits .quo .f64 x y=some (wrd (sB x^^sB y) r))) (P:Hid (r<=9218868437227405312)) (hR:Hid (R=(r:Int))) (hn:ah u=false) (z:ah v=false) (hi:aY u=false) (F:aY v=false) (hz:(szI u==0)=false) (ad:(szI v==0)=false) :
  Calls Tryz.prog 144 #[.int .u64 u,.int .u64 v] w fun e a=>e=.returned (.int .u64 (S+R))/\Below w.heap.size w a:=by
 have bc:0<=R:=by rw [hR.out];omega
 have ba:R<=9218868437227405312:=by have:=P.out;rw [hR.out];omega
 have HX:=aa hx;have HY:=aa hy;have U:=bI hu.out;have T:=bI hv.out;obtain⟨Q,i⟩:∃ Q,szI u=Q:=⟨_,rfl⟩;obtain⟨E,l⟩:∃ E,szI v=E:=⟨_,rfl⟩;rw [i] at U hz
 rw [l] at T ad
 have al:Hid (∀ w,Calls Tryz.prog 74 #[.int .u64 Q] w fun r a=>∃ neg v N e,r=.returned (.agg #[.bool neg,v,.int .i64 e])/\DN a v N/\OfR (x % 9223372036854775808) neg N e/\Below w.heap.size w a):=fun w=>eC (x % 9223372036854775808) Q w U (by rw [U];exact ag (by omega)) (by unfold af at *;rw [gD];exact hx)
 have am:Hid (∀ w,Calls Tryz.prog 74 #[.int .u64 E] w fun r a=>∃ neg v N e,r=.returned (.agg #[.bool neg,v,.int .i64 e])/\DN a v N/\OfR (y % 9223372036854775808) neg N e/\Below w.heap.size w a):=fun w=>eC (y % 9223372036854775808) E w T (by rw [T];exact ag (by omega)) (by unfold af at *;rw [gD];exact hy)
 have ab:=aa fun w=>io u Q w h i
 have K:=aa fun w=>io v E w W l
 have L:=aa (aj u · h);have D:=aa (aj v · W);have O:=aa (aw u · h);have H:=aa (aw v · W);rw [hn] at L
 rw [z] at D
 rw [hi] at O
 rw [F] at H
 clear hx hy hn z hi F h W i l U T
 go_enter Tryz.func144,Tryz.ntmps144
 go_wp2_with (first | (go_at_call_of 49 (Value.int IntKind.u64 u);refine (aG (L.out _)).mono ?_;rintro e a ⟨rfl,rfl⟩) | (go_at_call_of 49 (Value.int IntKind.u64 v);refine (aG (D.out _)).mono ?_;rintro e a ⟨rfl,rfl⟩) | (go_at_call_of 72 (Value.int IntKind.u64 u);refine (aG (O.out _)).mono ?_;rintro e a ⟨rfl,rfl⟩) | (go_at_call_of 72 (Value.int IntKind.u64 v);refine (aG (H.out _)).mono ?_;rintro e a ⟨rfl,rfl⟩) | (go_at_call_of 76 (Value.int IntKind.u64 u);refine (ab.out _).mono ?_;rintro e a ⟨rfl,rfl⟩) | (go_at_call_of 76 (Value.int IntKind.u64 v);refine (K.out _).mono ?_;rintro e a ⟨rfl,rfl⟩))
 refine (al.out _).mono ?_
 rintro r1 w1 ⟨nx,vx,X,ex,rfl,s,hX,B⟩;have m:=aa B;have G:=aa s;have c:=aa hX;clear B s hX
 go_wp2_with fail
 refine (K.out _).mono ?_
 rintro e a ⟨rfl,rfl⟩
 go_wp2_with fail
 refine (am.out _).mono ?_
 rintro r1 w2 ⟨ny,vy,Y,ey,rfl,C,hY,o⟩;have n:=aa (m.out.trans (o.mono m.out.size));have g:=aa (G.out.below o);have J:=aa C;have b:=aa hY;clear o C hY m G;have j:Hid (X≠0):=fun e=>h0.out (by have:=c.out.val;rw [e,Nat.zero_mul] at this;unfold aV at this;rw [gD] at this;exact lD this.symm)
 have p:Hid (Y≠0):=fun e=>h1.out (by have:=b.out.val;rw [e,Nat.zero_mul] at this;unfold aV at this;rw [gD] at this;exact lD this.symm)
 obtain⟨k,Z⟩:∃ k:Nat,max 0 (70 - (bl X:Int)+(bl Y:Int))=(k:Int):=⟨(max 0 (70 - (bl X:Int)+(bl Y:Int))).toNat,by omega⟩
 obtain⟨t,q⟩:∃ t,decide (0<nd (X*2^k % Y))=t:=⟨_,rfl⟩;obtain⟨r',p1,p2,p3,V⟩:=Ic c.out b.out HX.out HY.out h0.out h1.out j.out p.out Z t q;have M:r'=r:=by
  have e:=hr.out;rw [p2] at e
  have e2:wrd (sB x^^sB y) r'=wrd (sB x^^sB y) r:=Option.some.inj e;unfold wrd at e2
  split at e2<;>omega
 obtain⟨f,d⟩:∃ f,bJ nx (X*2^k / Y) (ex - k - ey) t=f:=⟨_,rfl⟩;rw [d] at p3 V
 rw [M,<- hR.out] at V
 have A:=aa (je nx ny t vx vy ex ey f X Y k _ w2 g.out J.out j.out p.out (by have:=dr c.out.lt;omega) (by have:=dr b.out.lt;omega) (by have:=c.out.lo;omega) (by have:=c.out.hi;omega) (by have:=b.out.lo;omega) (by have:=b.out.hi;omega) Z rfl q d)
 have ai:=aa fun w=>io f R w p3 V
 clear Z q d p1 p2 p3 V M j p c b g J hr P
 go_wp2_with fail
 refine A.out.mono ?_
 rintro r1 w3 ⟨rfl,I⟩;have ak:=aa (n.out.trans (I.mono n.out.size));clear I A n
 go_wp2_with fail
 refine (ai.out _).mono ?_
 rintro r1 a ⟨rfl,rfl⟩
 go_wp2_with fail
 go_ret
 exact⟨rfl,ak.out⟩
theorem iu (x y:Nat) (u v:Int) (w:World) (p:Hid (u=(x:Int))) (n:Hid (v=(y:Int))) (h:U64 u) (k:U64 v) :
  Calls Tryz.prog 144 #[.int .u64 u,.int .u64 v] w fun e B=>e=.returned (.int .u64 (cn (floatBits .quo .f64 x y):Int))/\Below w.heap.size w B:=by
 have s:=uG h k;obtain⟨D,F⟩:=CL (sgB u^^sgB v);have A:x<18446744073709551616:=by have:=h.2;rw [p.out] at this;omega
 have z:y<18446744073709551616:=by have:=k.2;rw [n.out] at this;omega
 have m:sgB u=sB x:=by rw [p.out];exact fQ A
 have l:sgB v=sB y:=by rw [n.out];exact fQ z
 have J:=bI p.out;have K:=bI n.out;have o:∀ b,decide (x % 9223372036854775808=0)=b->(szI u==0)=b:=fun b e=>by
  rw [<- e,J];by_cases c:x % 9223372036854775808=0
  ·rw [c];rfl
  ·rw [decide_eq_false c];simp;omega
 have q:∀ b,decide (y % 9223372036854775808=0)=b->(szI v==0)=b:=fun b e=>by
  rw [<- e,K];by_cases c:y % 9223372036854775808=0
  ·rw [c];rfl
  ·rw [decide_eq_false c];simp;omega
 have same:∀ {r:Int},(Calls Tryz.prog 144 #[.int .u64 u,.int .u64 v] w fun e B=>e=.returned (.int .u64 r)/\B=w)->(cn (floatBits .quo .f64 x y):Int)=r->Calls Tryz.prog 144 #[.int .u64 u,.int .u64 v] w fun e B=>e=.returned (.int .u64 (cn (floatBits .quo .f64 x y):Int))/\Below w.heap.size w B:=fun L e=>by
  rw [e];exact L.mono fun _ _ ⟨a,b⟩=>⟨a,by rw [b];exact Below.refl _ _⟩
 cases j:ah u with
 | true=>
  refine same (ir u v w h k (Or.inl j)) ?_
  rw [dV (by rw [<- p.out];exact j)];rfl
 | false=>
  cases f:ah v with
  | true=>
   refine same (ir u v w h k (Or.inr (Or.inl ⟨j,f⟩))) ?_
   rw [eR (by rw [<- n.out];exact f)];rfl
  | false=>
   cases hi:aY u with
   | true=>
    have E:=il p.out hi;cases i:aY v with
    | true=>
     have H:=il n.out i;refine same (ir u v w h k (Or.inr (Or.inr (Or.inl ⟨j,f,hi,i⟩)))) ?_
     rw [xh (Or.inl ⟨E,H⟩)];rfl
    | false=>
     have t:=fx n.out f i;refine same (pM u v _ w h k s D F j f (o _ (by rw [E];rfl)) (Or.inl ⟨hi,i⟩)) ?_
     rw [CM E t,ar,dW,m,l];rfl
   | false=>
    have C:=fx p.out j hi
    by_cases g:y % 9223372036854775808=0
    ·by_cases d:x % 9223372036854775808=0
     ·refine same (ir u v w h k (Or.inr (Or.inr (Or.inr ⟨j,f,hi,o _ (decide_eq_true d),q _ (decide_eq_true g)⟩)))) ?_
      rw [xh (Or.inr ⟨d,g⟩)];rfl
     ·refine same (pM u v _ w h k s D F j f (o _ (decide_eq_false d)) (Or.inr ⟨hi,q _ (decide_eq_true g)⟩)) ?_
      rw [nC C d g,ar,dW,m,l];rfl
    ·cases i:aY v with
     | true=>
      have H:=il n.out i;have e:(cn (floatBits .quo .f64 x y):Int)=gB (sgB u^^sgB v):=by rw [pK C H,ar,dW,m,l];simp
      by_cases d:x % 9223372036854775808=0
      ·exact same (jf u v _ w h k s j f hi (q _ (decide_eq_false g)) (Or.inl ⟨i,o _ (decide_eq_true d)⟩)) e
      ·exact same (jf u v _ w h k s j f hi (q _ (decide_eq_false g)) (Or.inr (Or.inl ⟨i,o _ (decide_eq_false d)⟩))) e
     | false=>
      have t:=fx n.out f i
      by_cases d:x % 9223372036854775808=0
      ·refine same (jf u v _ w h k s j f hi (q _ (decide_eq_false g)) (Or.inr (Or.inr ⟨i,o _ (decide_eq_true d)⟩))) ?_
       rw [pL d t g,ar,dW,m,l];simp
      ·obtain⟨r,I,G⟩:∃ r,floatBits .quo .f64 x y=some (wrd (sB x^^sB y) r)/\r<=9218868437227405312:=⟨_,jL C t d g rfl rfl rfl rfl (Nat.le_refl _),Nat.min_le_right _ _⟩;have e:(cn (floatBits .quo .f64 x y):Int)=gB (sgB u^^sgB v)+(r:Int):=by rw [I,ar,dW,m,l]
       rw [e];exact AB x y r u v _ _ w p n h k C t d g s D F I G rfl j f hi i (o _ (decide_eq_false d)) (q _ (decide_eq_false g))
end Go.Proofs.YtfdddijdjpijbaaGreat
