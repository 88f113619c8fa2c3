/-  -/
import Derived.Test.YtfdddijdjpijbaaGreatFlt
import Derived.Lib.BitFns
import Derived.Test.YtfdddijdjpijbaaGreatHaa
namespace Go.Proofs.YtfdddijdjpijbaaGreat
def rne (n d:Nat):Nat:=n / 2^d+(if 2^d<2*(n % 2^d)\/(2^d=2*(n % 2^d)/\n / 2^d % 2=1) then 1 else 0)
theorem gG {n d:Nat} (h:2*n<2^d):rne n d=0:=by
 have a:n<2^d:=by omega
 unfold rne;rw [Nat.div_eq_of_lt a,Nat.mod_eq_of_lt a,if_neg (by omega)]
theorem fF (n:Nat):rne n 0=n:=by unfold rne;simp [Nat.mod_one]
theorem dL (n d k:Nat):rne (n*2^k) (d+k)=rne n d:=by
 have a:0<2^k:=Nat.two_pow_pos k;unfold rne;rw [Nat.pow_add,Nat.mul_div_mul_right _ _ a,Nat.mul_mod_mul_right]
 congr 1
 have e:2*(n % 2^d*2^k)=(2*(n % 2^d))*2^k:=by rw [Nat.mul_assoc]
 rw [e];have b:2^d*2^k<(2*(n % 2^d))*2^k↔2^d<2*(n % 2^d):=Nat.mul_lt_mul_right a;have c:2^d*2^k=(2*(n % 2^d))*2^k↔2^d=2*(n % 2^d):=⟨fun h=>Nat.eq_of_mul_eq_mul_right a h,fun h=>congrArg (·*2^k) h⟩
 simp only [b,c]
theorem Hj (neg:Bool) (n c:Nat):Ieee.Toward.even.cut neg n c=rne n c:=by
 show n / (1 <<< min c (n.log2+2))+(decide (1 <<< min c (n.log2+2)<2*(n % (1 <<< min c (n.log2+2))))||((1 <<< min c (n.log2+2))==2*(n % (1 <<< min c (n.log2+2)))&&n / (1 <<< min c (n.log2+2)) % 2==1)).toNat=_
 rw [Nat.one_shiftLeft]
 by_cases h:c<=n.log2+2
 ·rw [Nat.min_eq_left h];unfold rne
  congr 1
  by_cases a:2^c<2*(n % 2^c)
  ·rw [if_pos (Or.inl a)];simp [a]
  ·by_cases b:2^c=2*(n % 2^c)/\n / 2^c % 2=1
   ·rw [if_pos (Or.inr b),<- b.1,b.2];simp
   ·rw [if_neg (by rintro (h | h);exact a h;exact b h)]
    have:((2^c==2*(n % 2^c))&&(n / 2^c % 2==1))=false:=by
     rw [Bool.eq_false_iff];intro h;simp only [Bool.and_eq_true,beq_iff_eq] at h;exact b h
    rw [this];simp [a]
 ·rw [Nat.min_eq_right (by omega)]
  have d:n<2^(n.log2+1):=Nat.lt_log2_self;have e:(2:Nat)^(n.log2+2)=2^(n.log2+1)*2:=Nat.pow_succ ..;have f:(2:Nat)^(n.log2+2)<=2^c:=Nat.pow_le_pow_right (by decide) (by omega)
  rw [gG (by omega),Nat.div_eq_of_lt (by omega),Nat.mod_eq_of_lt (by omega)]
  have a:¬ (2^(n.log2+2)<2*n):=by omega
  have b:((2:Nat)^(n.log2+2)==2*n)=false:=by simp;omega
  rw [b];simp [a]
def ak (b:Nat) (a:Int):Int:=max (a+b.log2 - 52) (-1074)
def nearR (b:Nat) (a:Int):Nat:=
 min ((ak b a+1074).toNat*4503599627370496+rne (b*2^(a - ak b a).toNat) (ak b a - a).toNat) 9218868437227405312
theorem bV (neg:Bool) {b:Nat} (h:b≠0) (a:Int):Ieee.double.nearest neg b a=Ieee.double.word neg (nearR b a):=by
 unfold Ieee.Format.nearest;rw [if_neg h];dsimp only;rw [Hj,Nat.shiftLeft_eq]
 rfl
theorem cG (neg:Bool) (a:Int):Ieee.double.nearest neg 0 a=Ieee.double.word neg 0:=by
 unfold Ieee.Format.nearest;rw [if_pos rfl]
theorem pB {r:Nat} (i:0<r) (h:r<9218868437227405312):nearR (mg r) (-1074+(pl r:Int))=r:=by
 by_cases e:r<4503599627370496
 ·have g:mg r=r:=by unfold mg;rw [if_pos e]
  have f:pl r=0:=by unfold pl;omega
  have d:r.log2<52:=(Nat.log2_lt (by omega)).2 (by omega)
  have c:ak r (-1074+((0:Nat):Int))= -1074:=by unfold ak;omega
  rw [g,f];unfold nearR;rw [c];simp only [Int.natCast_zero,Int.add_zero,Int.sub_self,Int.toNat_zero,Nat.pow_zero,Nat.mul_one,fF];omega
 ·have b:=Da (r:=r) (by omega)
  have a:=nF r;have d:(mg r).log2=52:=by
   rw [Nat.log2_eq_iff (by omega)];exact⟨b,a⟩
  have c:ak (mg r) (-1074+(pl r:Int))= -1074+(pl r:Int):=by unfold ak;rw [d];omega
  unfold nearR;rw [c];simp only [Int.sub_self,Int.toNat_zero,Nat.pow_zero,Nat.mul_one,fF];unfold mg pl at *
  rw [if_neg e] at *
  omega
theorem jL {b:Nat} {a:Int} (h:b≠0) (f:1023<a+b.log2):nearR b a=9218868437227405312:=by
 have d:ak b a=a+b.log2 - 52:=by unfold ak;omega
 unfold nearR;rw [d];refine Nat.min_eq_right ?_
 have e:4503599627370496<=rne (b*2^(a - (a+b.log2 - 52)).toNat) (a+b.log2 - 52 - a).toNat:=by
  have c:=Nat.log2_self_le h;rw [show (a - (a+b.log2 - 52)).toNat=52 - b.log2 by omega,show (a+b.log2 - 52 - a).toNat=b.log2 - 52 by omega]
  refine Nat.le_trans ?_ (Nat.le_add_right _ _)
  rw [Nat.le_div_iff_mul_le (Nat.two_pow_pos _),show (4503599627370496:Nat)=2^52 from rfl,<- Nat.pow_add]
  calc 2^(52+(b.log2 - 52))=2^b.log2*2^(52 - b.log2):=by rw [<- Nat.pow_add];congr 1;omega
   _<=b*2^(52 - b.log2):=Nat.mul_le_mul_right _ c
 omega
theorem lh:∀ (f x:Nat),x<2^f->Lib.bitLenAux f x=if x=0 then 0 else x.log2+1
 | 0,x,h=>by
  have:x=0:=by simpa using h
  subst this;rfl
 | f+1,x,h=>by
  unfold Lib.bitLenAux
  by_cases a:x=0
  ·rw [if_pos a,if_pos a]
  ·rw [if_neg a,if_neg a,lh f (x / 2) (by rw [Nat.pow_succ] at h;omega)]
   by_cases b:x / 2=0
   ·have:x=1:=by omega
    subst this;decide
   ·rw [if_neg b,Nat.log2_def x,if_pos (by omega)]
    omega
theorem jd {x:Nat} (a:x≠0) (h:x<18446744073709551616):Lib.bitLen x=x.log2+1:=by
 unfold Lib.bitLen;rw [lh 64 x h,if_neg a]
theorem Hk (n d:Nat):rne n d<=n / 2^d+1:=by unfold rne;split<;>omega
theorem uQ {u:Nat} (b:u≠0) (h:u<18446744073709551616):u*2^(63 - u.log2)<18446744073709551616:=by
 have d:u.log2<64:=(Nat.log2_lt b).2 h;have c:u<2^(u.log2+1):=Nat.lt_log2_self;have a:u*2^(63 - u.log2)<2^(u.log2+1)*2^(63 - u.log2):=Nat.mul_lt_mul_of_pos_right c (Nat.two_pow_pos _);rw [<- Nat.pow_add,show u.log2+1+(63 - u.log2)=64 by omega] at a
 exact a
theorem uR {n d c:Nat} (h:n<c*2^d):rne n d<=c:=by
 have:=Hk n d;have a:n / 2^d<c:=(Nat.div_lt_iff_lt_mul (Nat.two_pow_pos _)).2 h;omega
theorem Db {t k:Nat} (a:t<=2045) (b:k<=9007199254740992):min (t*4503599627370496+k) 9218868437227405312=t*4503599627370496+k:=by omega
theorem je {u:Nat} {e:Int} (h:u<18446744073709551616) (c:e< -1139):nearR u e=0:=by
 have d:u.log2<64:=by
  by_cases a:u=0
  ·subst a;decide
  ·exact (Nat.log2_lt a).2 h
 have b:ak u e= -1074:=by unfold ak;omega
 unfold nearR;rw [b,show (e - -1074).toNat=0 by omega,Nat.pow_zero,Nat.mul_one,gG]
 ·rfl
 ·have:(2:Nat)^65<=2^(-1074 - e).toNat:=Nat.pow_le_pow_right (by decide) (by omega)
  omega
theorem li {u:Nat} {e:Int} (a:u≠0) (h:u<18446744073709551616) (i: -1022<=e+u.log2) (g:e+u.log2<=1023) :
  nearR u e=(e+u.log2+1022).toNat*4503599627370496+rne (u*2^(63 - u.log2)) 11:=by
 have f:u.log2<64:=(Nat.log2_lt a).2 h;have c:ak u e=e+u.log2 - 52:=by unfold ak;omega
 have b:rne (u*2^(e - (e+u.log2 - 52)).toNat) (e+u.log2 - 52 - e).toNat=rne (u*2^(63 - u.log2)) 11:=by
  rw [show (e - (e+u.log2 - 52)).toNat=52 - u.log2 by omega,show (e+u.log2 - 52 - e).toNat=u.log2 - 52 by omega]
  by_cases d:u.log2<=52
  ·have:=dL (u*2^(52 - u.log2)) 0 11;rw [Nat.mul_assoc,<- Nat.pow_add,show 52 - u.log2+11=63 - u.log2 by omega,show 0+11=11 from rfl] at this
   rw [this,show u.log2 - 52=0 by omega]
  ·have:=dL u (u.log2 - 52) (63 - u.log2);rw [show u.log2 - 52+(63 - u.log2)=11 by omega] at this
   rw [this,show 52 - u.log2=0 by omega,Nat.pow_zero,Nat.mul_one]
 unfold nearR;rw [c,b,show (e+u.log2 - 52+1074).toNat=(e+u.log2+1022).toNat by omega]
 exact Db (by omega) (uR (uQ a h))
theorem En {u:Nat} {e:Int} (a:u≠0) (h:u<18446744073709551616) (i:e+u.log2< -1022) :
  nearR u e=rne (u*2^(63 - u.log2)) (-1011 - e - u.log2).toNat:=by
 have g:u.log2<64:=(Nat.log2_lt a).2 h;have d:ak u e= -1074:=by unfold ak;omega
 have c:rne (u*2^(e - -1074).toNat) (-1074 - e).toNat=rne (u*2^(63 - u.log2)) (-1011 - e - u.log2).toNat:=by
  by_cases f:e<=-1074
  ·have:=dL u (-1074 - e).toNat (63 - u.log2);rw [show (-1074 - e).toNat+(63 - u.log2)=(-1011 - e - u.log2).toNat by omega] at this
   rw [this,show (e - -1074).toNat=0 by omega,Nat.pow_zero,Nat.mul_one]
  ·have:=dL (u*2^(e - -1074).toNat) 0 (-1011 - e - u.log2).toNat;rw [Nat.mul_assoc,<- Nat.pow_add,show (e - -1074).toNat+(-1011 - e - u.log2).toNat=63 - u.log2 by omega,Nat.zero_add] at this
   rw [this,show (-1074 - e).toNat=0 by omega]
 unfold nearR;rw [d,c,show (-1074+1074:Int).toNat=0 from rfl]
 have b:rne (u*2^(63 - u.log2)) (-1011 - e - u.log2).toNat<=9007199254740992:=by
  refine uR (Nat.lt_of_lt_of_le (uQ a h) ?_)
  have:(2:Nat)^11<=2^(-1011 - e - u.log2).toNat:=Nat.pow_le_pow_right (by decide) (by omega)
  omega
 rw [Db (by omega) b];omega
def dgt (N i:Nat):Nat:=N / 2^(32*i) % 4294967296
def nd (N:Nat):Nat:=if N=0 then 0 else N.log2 / 32+1
def bl (N:Nat):Nat:=if N=0 then 0 else N.log2+1
theorem bB (N i:Nat):dgt N i<4294967296:=Nat.mod_lt _ (by decide)
theorem gH (k:Nat):(2:Nat)^(32*(k+1))=2^(32*k)*4294967296:=by
 rw [show 32*(k+1)=32*k+32 by omega,Nat.pow_add]
theorem wY (i:Nat):dgt 0 i=0:=by unfold dgt;rw [Nat.zero_div]
theorem uS:nd 0=0:=rfl
theorem dh (N:Nat):N<2^(32*nd N):=by
 unfold nd
 by_cases h:N=0
 ·subst h;decide
 ·rw [if_neg h];refine Nat.lt_of_lt_of_le (Nat.lt_log2_self (n:=N)) (Nat.pow_le_pow_right (by decide) ?_)
  omega
theorem dt {N:Nat} (h:N≠0):1<=nd N:=by unfold nd;rw [if_neg h];omega
theorem OB {N:Nat} (h:N≠0):2^(32*(nd N - 1))<=N:=by
 unfold nd;rw [if_neg h];refine Nat.le_trans (Nat.pow_le_pow_right (by decide) ?_) (Nat.log2_self_le h)
 omega
theorem QB {N k:Nat} (d:2^(32*k)<=N) (c:N<2^(32*(k+1))):nd N=k+1:=by
 have h:N≠0:=by have:=Nat.two_pow_pos (32*k);omega
 unfold nd;rw [if_neg h];have a:32*k<=N.log2:=(Nat.le_log2 h).2 d;have b:N.log2<32*(k+1):=(Nat.log2_lt h).2 c;omega
theorem bP {N k:Nat} (h:N<2^(32*k)):nd N<=k:=by
 by_cases a:N=0
 ·subst a;exact Nat.zero_le _
 ·unfold nd;rw [if_neg a];have b:N.log2<32*k:=(Nat.log2_lt a).2 h;omega
theorem mH {N k:Nat} (h:N<2^(32*(k+1))):dgt N k=N / 2^(32*k):=by
 unfold dgt;apply Nat.mod_eq_of_lt;rw [Nat.div_lt_iff_lt_mul (Nat.two_pow_pos _),Nat.mul_comm,<- gH];exact h
theorem mI {N i:Nat} (h:N<2^(32*i)):dgt N i=0:=by
 unfold dgt;rw [Nat.div_eq_of_lt h]
theorem Hl {N i:Nat} (h:nd N<=i):dgt N i=0:=
 mI (Nat.lt_of_lt_of_le (dh N) (Nat.pow_le_pow_right (by decide) (by omega)))
theorem Eo {M n:Nat} (h:M<2^(32*(n+1))) (a:dgt M n=0):M<2^(32*n):=by
 rw [mH h] at a
 exact (Nat.div_eq_zero_iff_lt (Nat.two_pow_pos _)).1 a
theorem Ho {M n:Nat} (h:M<2^(32*(n+1))) (b:dgt M n≠0):nd M=n+1:=by
 refine QB ?_ h
 rw [mH h] at b
 rcases Nat.lt_or_ge M (2^(32*n)) with a | a
 ·exact absurd (Nat.div_eq_of_lt a) b
 ·exact a
theorem Mg {N:Nat} (h:N≠0):dgt N (nd N - 1)=N / 2^(32*(nd N - 1)):=by
 apply mH;have:=dt h;rw [show nd N - 1+1=nd N by omega]
 exact dh N
theorem OT {N:Nat} (h:N≠0):bl N=32*(nd N - 1)+bl (dgt N (nd N - 1)):=by
 have f:=OB h;rw [Mg h];have c:=Nat.two_pow_pos (32*(nd N - 1));have d:N / 2^(32*(nd N - 1))≠0:=by
  have:=(Nat.one_le_div_iff c).2 f;omega
 unfold bl;rw [if_neg h,if_neg d];have e:N.log2=(N / 2^(32*(nd N - 1))).log2+32*(nd N - 1):=by
  rw [Nat.log2_eq_iff h];have a:=Nat.log2_self_le d;have b:N / 2^(32*(nd N - 1))<2^((N / 2^(32*(nd N - 1))).log2+1):=Nat.lt_log2_self;constructor
  ·rw [Nat.pow_add];exact (Nat.le_div_iff_mul_le c).1 a
  ·rw [show (N / 2^(32*(nd N - 1))).log2+32*(nd N - 1)+1=((N / 2^(32*(nd N - 1))).log2+1)+32*(nd N - 1) by omega,Nat.pow_add]
   exact (Nat.div_lt_iff_lt_mul c).1 b
 omega
theorem Mh {x:Nat} (h:x≠0):bl x=bl (x / 2)+1:=by
 unfold bl;rw [if_neg h]
 by_cases a:x / 2=0
 ·have:x=1:=by omega
  subst this;decide
 ·rw [if_neg a,Nat.log2_def x,if_pos (by omega)]
theorem fG (N i:Nat):N % 2^(32*(i+1))=N % 2^(32*i)+dgt N i*2^(32*i):=by
 unfold dgt;rw [gH,Nat.mod_mul,Nat.mul_comm (2^(32*i))]
theorem OU {M x k r j:Nat} (s:M<2^r*2^(32*k)) (t:x<2^63) (p:x % 2^r=0) (n:r<=32) :
  dgt (M+x*2^(32*k)) j=if j<k then dgt M j else if j=k then dgt M k+x % 4294967296 else if j=k+1 then x / 4294967296 else 0:=by
 have d:=Nat.two_pow_pos (32*k);have u:M / 2^(32*k)<2^r:=(Nat.div_lt_iff_lt_mul d).2 s;have q:(2:Nat)^r<=2^32:=Nat.pow_le_pow_right (by decide) n
 have i:(M+x*2^(32*k)) / 2^(32*k)=M / 2^(32*k)+x:=by rw [Nat.add_mul_div_right _ _ d]
 have c:dgt M k=M / 2^(32*k):=Nat.mod_eq_of_lt (by omega)
 have h:M / 2^(32*k)+x % 4294967296<4294967296:=by
  have g:(4294967296:Nat)=2^r*2^(32 - r):=by rw [<- Nat.pow_add,show r+(32 - r)=32 by omega]
  have o:x % 4294967296=2^r*(x / 2^r % 2^(32 - r)):=by
   rw [g,Nat.mod_mul,p,Nat.zero_add]
  have a:x / 2^r % 2^(32 - r)<2^(32 - r):=Nat.mod_lt _ (Nat.two_pow_pos _);rw [o];have l:2^r*(x / 2^r % 2^(32 - r)+1)<=2^r*2^(32 - r):=Nat.mul_le_mul_left _ a;rw [Nat.mul_add,Nat.mul_one,<- g] at l
  omega
 by_cases f:j<k
 ·rw [if_pos f];unfold dgt;have e:x*2^(32*k)=(x*2^(32*(k - j - 1))*4294967296)*2^(32*j):=by
   rw [Nat.mul_assoc,Nat.mul_assoc,Nat.mul_comm 4294967296,<- gH,<- Nat.pow_add];congr 2;omega
  rw [e,Nat.add_mul_div_right _ _ (Nat.two_pow_pos _),Nat.add_mul_mod_self_right]
 ·rw [if_neg f];have m:(M+x*2^(32*k)) / 2^(32*j)=(M / 2^(32*k)+x) / 2^(32*(j - k)):=by
   rw [<- i,Nat.div_div_eq_div_mul,<- Nat.pow_add];congr 2;omega
  unfold dgt at *
  rw [m]
  by_cases b:j=k
  ·rw [if_pos b,c,b,Nat.sub_self,Nat.mul_zero,Nat.pow_zero,Nat.div_one];omega
  ·rw [if_neg b]
   by_cases a:j=k+1
   ·rw [if_pos a,a,show k+1 - k=1 by omega,show (2:Nat)^(32*1)=4294967296 from rfl];omega
   ·rw [if_neg a];have:(M / 2^(32*k)+x) / 2^(32*(j - k))=0:=by
     apply Nat.div_eq_of_lt;have:(2:Nat)^(32*2)<=2^(32*(j - k)):=Nat.pow_le_pow_right (by decide) (by omega)
     omega
    rw [this]
def aK (N:Nat) (e:Int):Int:=max ((bl N:Int) - 53+e) (-1074)
def nG (N d:Nat) (more:Bool):Nat:=N / 2^d+(if N / 2^(d - 1) % 2=1/\(N % 2^(d - 1)≠0\/more=true\/N / 2^d % 2=1) then 1 else 0)
def kD (N:Nat) (e:Int) (more:Bool):Nat:=if aK N e<=e then N*2^(e - aK N e).toNat else nG N (aK N e - e).toNat more
def rnd53 (N:Nat) (e:Int) (more:Bool):Nat:=(aK N e+1074).toNat*4503599627370496+kD N e more
theorem eK {N:Nat} (h:N≠0):bl N=N.log2+1:=by unfold bl;rw [if_neg h]
theorem Hp (N:Nat):N<2^bl N:=by
 unfold bl
 by_cases h:N=0
 ·subst h;decide
 ·rw [if_neg h];exact Nat.lt_log2_self
theorem sX (N:Nat):bl N<=32*nd N:=by
 unfold bl nd
 by_cases h:N=0
 ·rw [if_pos h];omega
 ·rw [if_neg h,if_neg h];omega
theorem uT (N:Nat) (e:Int): -1074<=aK N e:=by unfold aK;omega
theorem Dc {N:Nat} {e:Int} (h:aK N e<=e):N*2^(e - aK N e).toNat<9007199254740992:=by
 have b:(bl N:Int) - 53+e<=aK N e:=by unfold aK;omega
 have a:=Hp N
 calc N*2^(e - aK N e).toNat<2^bl N*2^(e - aK N e).toNat:=Nat.mul_lt_mul_of_pos_right a (Nat.two_pow_pos _)
  _=2^(bl N+(e - aK N e).toNat):=by rw [Nat.pow_add]
  _<=2^53:=Nat.pow_le_pow_right (by decide) (by omega)
theorem sY {N:Nat} {e:Int} (h:e<aK N e):N / 2^(aK N e - e).toNat<9007199254740992:=by
 have b:(bl N:Int) - 53+e<=aK N e:=by unfold aK;omega
 have a:=Hp N;rw [Nat.div_lt_iff_lt_mul (Nat.two_pow_pos _),show (9007199254740992:Nat)=2^53 from rfl,<- Nat.pow_add]
 exact Nat.lt_of_lt_of_le a (Nat.pow_le_pow_right (by decide) (by omega))
theorem Hr (N d:Nat) (more:Bool):nG N d more<=N / 2^d+1:=by unfold nG;split<;>omega
theorem Mi (N:Nat) (e:Int) (more:Bool):kD N e more<=9007199254740992:=by
 unfold kD
 by_cases h:aK N e<=e
 ·rw [if_pos h];exact Nat.le_of_lt (Dc h)
 ·rw [if_neg h];have b:=sY (N:=N) (e:=e) (by omega)
  have a:=Hr N (aK N e - e).toNat more;omega
theorem ii {K:Nat} (h:K<18446744073709551616):dgt K 0+dgt K 1*4294967296=K:=by
 unfold dgt;rw [Nat.mul_zero,Nat.pow_zero,Nat.div_one,show (2:Nat)^(32*1)=4294967296 from rfl];omega
theorem Ep {N d:Nat} (h:1<=d):nG N d false=rne N d:=by
 unfold nG rne
 congr 1
 obtain⟨k,rfl⟩:∃ k,d=k+1:=⟨d - 1,by omega⟩
 rw [Nat.add_sub_cancel];have e:N % 2^(k+1)=N % 2^k+2^k*(N / 2^k % 2):=by rw [Nat.pow_succ,Nat.mod_mul]
 have g:=Nat.two_pow_pos k;have c:N % 2^k<2^k:=Nat.mod_lt _ g;rw [e,Nat.pow_succ];have a:N / 2^k % 2=0\/N / 2^k % 2=1:=by omega
 rcases a with a | a
 ·rw [a,if_neg (by omega),if_neg (by omega)]
 ·rw [a,Nat.mul_one]
  by_cases f:N % 2^k=0
  ·by_cases b:N / (2^k*2) % 2=1
   ·rw [if_pos ⟨rfl,Or.inr (Or.inr b)⟩,if_pos (Or.inr ⟨by omega,b⟩)]
   ·rw [if_neg (by simp;omega),if_neg (by omega)]
  ·rw [if_pos ⟨rfl,Or.inl f⟩,if_pos (Or.inl (by omega))]
theorem Hs {N:Nat} (e:Int) (h:N≠0):min (rnd53 N e false) 9218868437227405312=nearR N e:=by
 have b:aK N e=ak N e:=by unfold aK ak;rw [eK h];omega
 unfold rnd53 kD nearR;rw [b]
 congr 2
 by_cases a:ak N e<=e
 ·rw [if_pos a,show (ak N e - e).toNat=0 by omega,fF]
 ·rw [if_neg a,Ep (by omega),show (e - ak N e).toNat=0 by omega,Nat.pow_zero,Nat.mul_one]
theorem Df (S k j:Nat):dgt (S % 2^(32*k)) j=if j<k then dgt S j else 0:=by
 by_cases h:j<k
 ·rw [if_pos h];unfold dgt;have e:(2:Nat)^(32*k)=2^(32*j)*(2^(32*(k - j - 1))*4294967296):=by
   rw [<- gH,<- Nat.pow_add];congr 1;omega
  rw [e,Nat.mod_mul_right_div_self,Nat.mod_mod_of_dvd _ (Nat.dvd_mul_left _ _)]
 ·rw [if_neg h];exact mI (Nat.lt_of_lt_of_le (Nat.mod_lt _ (Nat.two_pow_pos _)) (Nat.pow_le_pow_right (by decide) (by omega)))
def cry (A B k:Nat):Nat:=(A % 2^(32*k)+B % 2^(32*k)) / 2^(32*k)
theorem xl (A B:Nat):cry A B 0=0:=by
 unfold cry;rw [Nat.mul_zero,Nat.pow_zero,Nat.mod_one,Nat.mod_one]
theorem OY (A B k:Nat):cry A B k<=1:=by
 unfold cry;have b:A % 2^(32*k)<2^(32*k):=Nat.mod_lt _ (Nat.two_pow_pos _);have a:B % 2^(32*k)<2^(32*k):=Nat.mod_lt _ (Nat.two_pow_pos _);have:(A % 2^(32*k)+B % 2^(32*k)) / 2^(32*k)<2:=by
  rw [Nat.div_lt_iff_lt_mul (Nat.two_pow_pos _)];omega
 omega
theorem xm (A B k:Nat):cry A B (k+1)=(dgt A k+dgt B k+cry A B k) / 4294967296:=by
 have c:=Nat.two_pow_pos (32*k);unfold cry;rw [fG,fG,gH,<- Nat.div_div_eq_div_mul]
 congr 1
 generalize A % 2^(32*k)=a;generalize B % 2^(32*k)=b;rw [show a+dgt A k*2^(32*k)+(b+dgt B k*2^(32*k))=(a+b)+(dgt A k+dgt B k)*2^(32*k) by rw [Nat.add_mul];omega,Nat.add_mul_div_right _ _ c]
 omega
theorem Dg (A B k:Nat):dgt (A+B) k=(dgt A k+dgt B k+cry A B k) % 4294967296:=by
 have a:=Nat.two_pow_pos (32*k);unfold dgt cry;generalize c:2^(32*k)=P at *
 have d:=Nat.div_add_mod A P;have b:=Nat.div_add_mod B P;have e:A+B=(A % P+B % P)+(A / P+B / P)*P:=by rw [Nat.add_mul,Nat.mul_comm (A / P),Nat.mul_comm (B / P)];omega
 rw [show (A+B) / P=(A % P+B % P) / P+(A / P+B / P) by rw (config:={ occs:=.pos [1] }) [e];rw [Nat.add_mul_div_right _ _ a]]
 omega
theorem EA {A B k a b c s:Nat} (f:a=dgt A k) (e:b=dgt B k) (hc:c=cry A B k) (d:s=a+b+c) :
  s % 4294967296=dgt (A+B) k/\s / 4294967296=cry A B (k+1):=by
 subst f e hc d;exact⟨(Dg A B k).symm,(xm A B k).symm⟩
theorem EB {B D k a b c:Nat} (f:a=dgt (B+D) k) (d:b=dgt B k) (hc:c=cry B D k) :
  b+c<=a+4294967296/\(a+4294967296 - b - c) % 4294967296=dgt D k/\(a+4294967296 - b - c) / 4294967296<=1/\1 - (a+4294967296 - b - c) / 4294967296=cry B D (k+1):=by
 have j:=Dg B D k;have e:=xm B D k;have h:=bB D k;have g:=bB B k;have l:=OY B D k;have i:=bB (B+D) k;subst f d hc;rw [e];generalize dgt (B+D) k=x at *
 generalize dgt B k=y at *
 generalize dgt D k=z at *
 generalize cry B D k=c at *
 omega
theorem div_step (A k:Nat):A / 2^(32*k)=A / 2^(32*(k+1))*4294967296+dgt A k:=by
 unfold dgt;rw [gH,<- Nat.div_div_eq_div_mul];omega
theorem te {A B k:Nat} (h:A / 2^(32*(k+1))=B / 2^(32*(k+1))) (d:dgt A k<dgt B k):A<B:=by
 have e:=div_step A k;have b:=div_step B k;rcases Nat.lt_or_ge A B with a | a
 ·exact a
 ·have:=Nat.div_le_div_right (c:=2^(32*k)) a;omega
theorem EC {A B k:Nat} (h:A / 2^(32*(k+1))=B / 2^(32*(k+1))) (a:dgt A k=dgt B k):A / 2^(32*k)=B / 2^(32*k):=by
 rw [div_step A k,div_step B k,h,a]
theorem xn {A B:Nat} (h:nd A<nd B):A<B:=by
 have a:B≠0:=by intro a;rw [a,uS] at h;omega
 have c:=dh A;have b:=OB a;exact Nat.lt_of_lt_of_le c (Nat.le_trans (Nat.pow_le_pow_right (by decide) (by omega)) b)
def mL (A B:Nat):Int:=if A<B then -1 else if A=B then 0 else 1
theorem ll {A B:Nat} (h:A<B):mL A B= -1:=if_pos h
theorem lm {A B:Nat} (h:A=B):mL A B=0:=by unfold mL;rw [if_neg (by omega),if_pos h]
theorem lp {A B:Nat} (h:B<A):mL A B=1:=by unfold mL;rw [if_neg (by omega),if_neg (by omega)]
theorem sum_lt {A B m n L:Nat} (f:A<2^(32*m)) (d:B<2^(32*n)) (a:m<L) (hn:n<L):A+B<2^(32*L):=by
 have e:(2:Nat)^(32*(L - 1+1))=2^(32*(L - 1))*4294967296:=gH (L - 1);rw [show L - 1+1=L by omega] at e
 have c:(2:Nat)^(32*m)<=2^(32*(L - 1)):=Nat.pow_le_pow_right (by decide) (by omega)
 have b:(2:Nat)^(32*n)<=2^(32*(L - 1)):=Nat.pow_le_pow_right (by decide) (by omega)
 omega
theorem Mu {xs ys:List Nat} {N s:Int} {f:Nat->Nat} {c n:Nat} {F:Nat} (h:Sg xs N) (r:xs.length=n+1) (d:ys.length=n+1) (k:FitW ys) (l:s=1\/s= -1) (hF:ps f (n+1)=F) (m:4*(F:Int)<=2^(64*(n+1))) (g:Rel s (fun i=>ys.getD i 0) (fun i=>xs.getD i 0) f c (n+1)):Sg (settle ys) (N+s*F):=by
 have b:=h.ext (n:=n+1) (by omega)
 rw [Dj (by omega)] at b
 have j:=h.range (n:=n) (by omega)
 have t: -(2^(64*n))<=N/\N<2^(64*n):=by
  have:=cj n;have:=dO n
  by_cases e:endW xs=0
  ·have:=j.1 e;omega
  ·have:=j.2 e;omega
 have p:(0:Int)<2^(64*n):=by have:=cj n;have:=dO n;omega
 obtain⟨a,u⟩:∃ a:Int,N=(ps (fun i=>xs.getD i 0) (n+1):Int) - a*2^(64*(n+1)):=by
  by_cases e:endW xs=0
  ·exact⟨0,by rw [if_pos e] at b;rw [Int.zero_mul];exact b⟩
  ·exact⟨1,by rw [if_neg e] at b;rw [Int.one_mul];exact b⟩
 unfold Rel at g
 rw [hF] at g
 rw [il] at m
 have o: -(4*F:Int)<=4*(s*F)/\4*(s*F)<=4*(F:Int):=by
  rcases l with rfl | rfl<;>constructor<;>omega
 refine EG (q:=a - s*c) k (by omega) ?_ ?_ ?_
 ·rw [d,Int.sub_mul,Int.mul_assoc s];omega
 ·rw [d,il];omega
 ·rw [d,il];omega
theorem Mv {xs ys:List Nat} {N:Int} {c:Nat} (h:Sg xs N) (b:ys.length=xs.length) (d:Rel (-1) (fun i=>ys.getD i 0) (fun _=>0) (fun i=>xs.getD i 0) c xs.length):∃ q:Int,(ps (fun i=>ys.getD i 0) ys.length:Int)= -N+q*2^(64*ys.length):=by
 have a:=h.eq;rw [Dj (Nat.le_refl _)] at a
 unfold Rel at d
 rw [oQ] at d
 by_cases e:endW xs=0
 ·refine⟨c,?_⟩
  rw [if_pos e] at a
  rw [b];omega
 ·refine⟨(c:Int) - 1,?_⟩
  rw [if_neg e] at a
  rw [b,Int.sub_mul];omega
theorem Iq {xs ys:List Nat} {N:Int} {c:Nat} (h:Sg xs N) (f:endW xs≠0) (d:ys.length=xs.length) (g:FitW ys) (m:Rel (-1) (fun i=>ys.getD i 0) (fun _=>0) (fun i=>xs.getD i 0) c xs.length):N<0/\(ps (fun i=>ys.getD i 0) ys.length:Int)= -N:=by
 have v:xs.length≠0:=by
  intro e;apply f;have:xs=[]:=List.length_eq_zero_iff.1 e;subst this;rfl
 obtain⟨n,j⟩:∃ n,xs.length=n+1:=⟨xs.length - 1,by omega⟩
 have o:=(h.range (n:=n) (by omega)).2 f
 refine⟨o.2,?_⟩
 have r:(0:Int)<2^(64*n):=by have:=cj n;have:=dO n;omega
 obtain⟨q,l⟩:=Mv h d m;have b:=ku g ys.length;have k:(ps (fun i=>ys.getD i 0) ys.length:Int)<2^(64*ys.length):=by have:=dO ys.length;omega
 rw [d,j] at l k ⊢
 have s:=il n;generalize (2:Int)^(64*(n+1))=R at *
 have a:q*R<1*R:=by omega
 have p:(-1)*R<q*R:=by omega
 have t:=Int.lt_of_mul_lt_mul_right a (by omega)
 have u:=Int.lt_of_mul_lt_mul_right p (by omega)
 have:q=0:=by omega
 subst this;omega
theorem AQ {hi lo off:Nat} (d:off<64) (a:lo<18446744073709551616):(hi*2^off % 18446744073709551616)||| (lo / 2^(64 - off))=hi*2^off % 18446744073709551616+lo / 2^(64 - off):=by
 have e:(18446744073709551616:Nat)=2^off*2^(64 - off):=by rw [<- Nat.pow_add,show off+(64 - off)=64 by omega]
 have c:hi*2^off % 18446744073709551616=2^off*(hi % 2^(64 - off)):=by
  rw [e,Nat.mul_comm hi,Nat.mul_mod_mul_left]
 have b:lo / 2^(64 - off)<2^off:=by
  rw [Nat.div_lt_iff_lt_mul (Nat.two_pow_pos _),<- e];exact a
 rw [c,<- Nat.two_pow_add_eq_or_of_lt b]
theorem pP {hi lo off:Nat} (d:off<64) :
  lo*2^off % 18446744073709551616+(hi*2^off % 18446744073709551616+lo / 2^(64 - off))*18446744073709551616+hi / 2^(64 - off)*(18446744073709551616*18446744073709551616)=(hi*18446744073709551616+lo)*2^off:=by
 have e:(18446744073709551616:Nat)=2^off*2^(64 - off):=by rw [<- Nat.pow_add,show off+(64 - off)=64 by omega]
 have a:∀ x:Nat,x / 2^(64 - off)=x*2^off / 18446744073709551616:=fun x=>by
  rw [e,Nat.mul_comm x,Nat.mul_div_mul_left _ _ (Nat.two_pow_pos _)]
 rw [a lo,a hi,Nat.add_mul (hi*18446744073709551616)];have f:=Nat.div_add_mod (lo*2^off) 18446744073709551616;have c:=Nat.div_add_mod (hi*2^off) 18446744073709551616;have b:hi*18446744073709551616*2^off=hi*2^off*18446744073709551616:=by rw [Nat.mul_right_comm]
 rw [b];generalize lo*2^off=A at *
 generalize hi*2^off=B at *
 omega
theorem kF {M t d:Nat} (I:2<=d):rne (if M % 2^t=0 then M / 2^t else (if M / 2^t % 2=1 then M / 2^t else M / 2^t+1)) d=rne M (d+t):=by
 by_cases l:M % 2^t=0
 ·rw [if_pos l];have e:M=M / 2^t*2^t:=by have:=Nat.div_add_mod M (2^t);rw [l,Nat.add_zero,Nat.mul_comm] at this;exact this.symm
  conv=>rhs;rw [e]
  rw [dL]
 ·rw [if_neg l];obtain⟨a,n⟩:∃ a,a=M / 2^t:=⟨_,rfl⟩;obtain⟨r,m⟩:∃ r,r=M % 2^t:=⟨_,rfl⟩;rw [<- n];have J:M=a*2^t+r:=by rw [n,m,Nat.mul_comm];exact (Nat.div_add_mod M (2^t)).symm
  have C:r<2^t:=by rw [m];exact Nat.mod_lt _ (Nat.two_pow_pos _)
  have y:r≠0:=by rw [m];exact l
  obtain⟨D,s⟩:∃ D,(2:Nat)^d=4*D:=⟨2^(d - 2),by rw [show (4:Nat)=2^2 from rfl,<- Nat.pow_add];congr 1;omega⟩
  have B:0<D:=by have:=Nat.two_pow_pos d;omega
  obtain⟨b,f⟩:∃ b,b=if a % 2=1 then a else a+1:=⟨_,rfl⟩
  rw [<- f];have k:b / 2^d=a / 2^d/\b % 2^d=a % 2^d+(b - a)/\b % 2=1:=by
   by_cases c:a % 2=1
   ·rw [if_pos c] at f;subst f;simp [c]
   ·rw [if_neg c] at f
    have o:a % 2^d % 2=0:=by rw [s,show 4*D=2*(2*D) by omega,Nat.mod_mul_right_mod];omega
    have A:=Nat.mod_lt a (Nat.two_pow_pos d);have v:a % 2^d+1<2^d:=by omega
    have H:=Nat.div_add_mod a (2^d);have e:b=a % 2^d+1+2^d*(a / 2^d):=by omega
    refine⟨?_,?_,by omega⟩
    ·rw [e,Nat.add_mul_div_left _ _ (Nat.two_pow_pos _),Nat.div_eq_of_lt v,Nat.zero_add]
    ·rw [e,Nat.add_mul_mod_self_left,Nat.mod_eq_of_lt v];omega
  have q:M / 2^(d+t)=a / 2^d:=by rw [Nat.add_comm,Nat.pow_add,<- Nat.div_div_eq_div_mul,<- n]
  have u:M % 2^(d+t)=a % 2^d*2^t+r:=by
   rw [Nat.add_comm,Nat.pow_add,Nat.mod_mul,<- n,<- m,Nat.mul_comm (2^t)];omega
  unfold rne;rw [k.1,q,k.2.1,u,Nat.add_comm d t,Nat.pow_add 2 t d];have i:∀ (x:Nat),x=a % 2^d->b - a<=1->(b - a=0↔x % 2=1)->((2^d<2*(x+(b - a))\/(2^d=2*(x+(b - a))/\a / 2^d % 2=1))↔(2^t*2^d<2*(x*2^t+r)\/(2^t*2^d=2*(x*2^t+r)/\a / 2^d % 2=1))):=by
   intro x G o A;have F:=Nat.two_pow_pos t;generalize (2:Nat)^t=T at *
   rw [s];have p:4*D<2*(x+(b - a))↔T*(4*D)<2*(x*T+r):=by
    constructor
    ·intro h;have g:2*D<=x:=by omega
     have j:2*D*T<=x*T:=Nat.mul_le_mul_right _ g;have w:T*(4*D)=2*(2*D*T):=by rw [Nat.mul_comm T,show 4*D=2*(2*D) by omega,Nat.mul_assoc]
     omega
    ·intro h;have w:T*(4*D)=2*(2*D*T):=by rw [Nat.mul_comm T,show 4*D=2*(2*D) by omega,Nat.mul_assoc]
     rcases Nat.lt_or_ge x (2*D) with g | g
     ·have j:(x+1)*T<=2*D*T:=Nat.mul_le_mul_right _ g;rw [Nat.add_mul,Nat.one_mul] at j
      omega
     ·omega
   have z:¬ (4*D=2*(x+(b - a))):=by omega
   have E:¬ (T*(4*D)=2*(x*T+r)):=by
    have w:T*(4*D)=2*(2*D*T):=by rw [Nat.mul_comm T,show 4*D=2*(2*D) by omega,Nat.mul_assoc]
    intro h;have K:2*D*T=x*T+r:=by omega
    rcases Nat.lt_or_ge x (2*D) with g | g
    ·have j:(x+1)*T<=2*D*T:=Nat.mul_le_mul_right _ g;rw [Nat.add_mul,Nat.one_mul] at j
     omega
    ·have j:2*D*T<=x*T:=Nat.mul_le_mul_right _ g;omega
   rw [p];constructor
   ·rintro (h | h)
    ·exact Or.inl h
    ·exact absurd h.1 z
   ·rintro (h | h)
    ·exact Or.inl h
    ·exact absurd h.1 E
  have o:a % 2^d % 2=a % 2:=by rw [s,show 4*D=2*(2*D) by omega,Nat.mod_mul_right_mod]
  have:=i (a % 2^d) rfl (by by_cases c:a % 2=1;rw [if_pos c] at f;omega;rw [if_neg c] at f;omega) (by rw [o];by_cases c:a % 2=1;rw [if_pos c] at f;omega;rw [if_neg c] at f;omega)
  simp only [this]
end Go.Proofs.YtfdddijdjpijbaaGreat
