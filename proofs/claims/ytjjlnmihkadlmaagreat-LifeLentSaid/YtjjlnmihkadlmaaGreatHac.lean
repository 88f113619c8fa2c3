/-  -/
import Derived.Test.YtjjlnmihkadlmaaGreatFlt
import Derived.Lib.BitFns
import Derived.Test.YtjjlnmihkadlmaaGreatHaa
namespace Go.Proofs.YtjjlnmihkadlmaaGreat

def rne (n d:Nat):Nat:=n / 2^d+(if 2^d<2*(n % 2^d)∨(2^d=2*(n % 2^d)∧n / 2^d % 2=1) then 1 else 0)

theorem eL {n d:Nat} (h:2*n<2^d):rne n d=0:=by
 have h1:n<2^d:=by omega
 unfold rne
 rw [Nat.div_eq_of_lt h1,Nat.mod_eq_of_lt h1,if_neg (by omega)]
theorem dL (n:Nat):rne n 0=n:=by unfold rne;simp [Nat.mod_one]
theorem cV (n d k:Nat):rne (n*2^k) (d+k)=rne n d:=by
 have hp:0<2^k:=Nat.two_pow_pos k
 unfold rne
 rw [Nat.pow_add,Nat.mul_div_mul_right _ _ hp,Nat.mul_mod_mul_right]
 congr 1
 have e:2*(n % 2^d*2^k)=(2*(n % 2^d))*2^k:=by rw [Nat.mul_assoc]
 rw [e]
 have f1:2^d*2^k<(2*(n % 2^d))*2^k↔2^d<2*(n % 2^d):=Nat.mul_lt_mul_right hp
 have f2:2^d*2^k=(2*(n % 2^d))*2^k↔2^d=2*(n % 2^d):=⟨fun h=>Nat.eq_of_mul_eq_mul_right hp h,fun h=>congrArg (·*2^k) h⟩
 simp only [f1,f2]

theorem AG (neg:Bool) (n drop:Nat):Ieee.Toward.even.cut neg n drop=rne n drop:=by
 show n / (1 <<< min drop (n.log2+2))+(decide (1 <<< min drop (n.log2+2)<2*(n % (1 <<< min drop (n.log2+2))))||((1 <<< min drop (n.log2+2))==2*(n % (1 <<< min drop (n.log2+2)))&&n / (1 <<< min drop (n.log2+2)) % 2==1)).toNat=_
 rw [Nat.one_shiftLeft]
 by_cases h:drop≤n.log2+2
 ·rw [Nat.min_eq_left h]
  unfold rne
  congr 1
  by_cases a:2^drop<2*(n % 2^drop)
  ·rw [if_pos (Or.inl a)];simp [a]
  ·by_cases b:2^drop=2*(n % 2^drop)∧n / 2^drop % 2=1
   ·rw [if_pos (Or.inr b),← b.1,b.2];simp
   ·rw [if_neg (by rintro (h | h);exact a h;exact b h)]
    have:((2^drop==2*(n % 2^drop))&&(n / 2^drop % 2==1))=false:=by
     rw [Bool.eq_false_iff];intro h;simp only [Bool.and_eq_true,beq_iff_eq] at h;exact b h
    rw [this];simp [a]
 ·rw [Nat.min_eq_right (by omega)]
  have hl:n<2^(n.log2+1):=Nat.lt_log2_self
  have e:(2:Nat)^(n.log2+2)=2^(n.log2+1)*2:=Nat.pow_succ ..
  have hd:(2:Nat)^(n.log2+2)≤2^drop:=Nat.pow_le_pow_right (by decide) (by omega)
  rw [eL (by omega),Nat.div_eq_of_lt (by omega),Nat.mod_eq_of_lt (by omega)]
  have a:¬ (2^(n.log2+2)<2*n):=by omega
  have b:((2:Nat)^(n.log2+2)==2*n)=false:=by simp;omega
  rw [b];simp [a]

def ao (mag:Nat) (place:Int):Int:=max (place+mag.log2 - 52) (-1074)
def nearR (mag:Nat) (place:Int):Nat:=
 min ((ao mag place+1074).toNat*4503599627370496+rne (mag*2^(place - ao mag place).toNat) (ao mag place - place).toNat) 9218868437227405312

theorem bQ (neg:Bool) {mag:Nat} (h:mag≠0) (place:Int):Ieee.double.nearest neg mag place=Ieee.double.word neg (nearR mag place):=by
 unfold Ieee.Format.nearest
 rw [if_neg h]
 dsimp only
 rw [AG,Nat.shiftLeft_eq]
 rfl
theorem bX (neg:Bool) (place:Int):Ieee.double.nearest neg 0 place=Ieee.double.word neg 0:=by
 unfold Ieee.Format.nearest;rw [if_pos rfl]

theorem lu {r:Nat} (h0:0<r) (h:r<9218868437227405312):nearR (mg r) (-1074+(pl r:Int))=r:=by
 by_cases h1:r<4503599627370496
 ·have e1:mg r=r:=by unfold mg;rw [if_pos h1]
  have e2:pl r=0:=by unfold pl;omega
  have hl:r.log2<52:=(Nat.log2_lt (by omega)).2 (by omega)
  have e3:ao r (-1074+((0:Nat):Int))= -1074:=by unfold ao;omega
  rw [e1,e2]
  unfold nearR
  rw [e3]
  simp only [Int.natCast_zero,Int.add_zero,Int.sub_self,Int.toNat_zero,Nat.pow_zero,Nat.mul_one,dL]
  omega
 ·have hlo:=wL (r:=r) (by omega)
  have hhi:=lh r
  have hl:(mg r).log2=52:=by
   rw [Nat.log2_eq_iff (by omega)];exact⟨hlo,hhi⟩
  have e3:ao (mg r) (-1074+(pl r:Int))= -1074+(pl r:Int):=by unfold ao;rw [hl];omega
  unfold nearR
  rw [e3]
  simp only [Int.sub_self,Int.toNat_zero,Nat.pow_zero,Nat.mul_one,dL]
  unfold mg pl at *
  rw [if_neg h1] at *
  omega

theorem gH {mag:Nat} {place:Int} (h:mag≠0) (ht:1023<place+mag.log2):nearR mag place=9218868437227405312:=by
 have hl:ao mag place=place+mag.log2 - 52:=by unfold ao;omega
 unfold nearR
 rw [hl]
 refine Nat.min_eq_right ?_
 have hk:4503599627370496≤rne (mag*2^(place - (place+mag.log2 - 52)).toNat) (place+mag.log2 - 52 - place).toNat:=by
  have h1:=Nat.log2_self_le h
  rw [show (place - (place+mag.log2 - 52)).toNat=52 - mag.log2 by omega,show (place+mag.log2 - 52 - place).toNat=mag.log2 - 52 by omega]
  refine Nat.le_trans ?_ (Nat.le_add_right _ _)
  rw [Nat.le_div_iff_mul_le (Nat.two_pow_pos _),show (4503599627370496:Nat)=2^52 from rfl,← Nat.pow_add]
  calc 2^(52+(mag.log2 - 52))=2^mag.log2*2^(52 - mag.log2):=by rw [← Nat.pow_add];congr 1;omega
   _≤mag*2^(52 - mag.log2):=Nat.mul_le_mul_right _ h1
 omega

theorem iW:∀ (f x:Nat),x<2^f→Lib.bitLenAux f x=if x=0 then 0 else x.log2+1
 | 0,x,h=>by
  have:x=0:=by simpa using h
  subst this;rfl
 | f+1,x,h=>by
  unfold Lib.bitLenAux
  by_cases h0:x=0
  ·rw [if_pos h0,if_pos h0]
  ·rw [if_neg h0,if_neg h0,iW f (x / 2) (by rw [Nat.pow_succ] at h;omega)]
   by_cases h1:x / 2=0
   ·have:x=1:=by omega
    subst this;decide
   ·rw [if_neg h1,Nat.log2_def x,if_pos (by omega)]
    omega
theorem fY {x:Nat} (h0:x≠0) (h:x<18446744073709551616):Lib.bitLen x=x.log2+1:=by
 unfold Lib.bitLen
 rw [iW 64 x h,if_neg h0]

theorem AH (n d:Nat):rne n d≤n / 2^d+1:=by unfold rne;split<;>omega

theorem pK {u:Nat} (h0:u≠0) (h:u<18446744073709551616):u*2^(63 - u.log2)<18446744073709551616:=by
 have hl:u.log2<64:=(Nat.log2_lt h0).2 h
 have h1:u<2^(u.log2+1):=Nat.lt_log2_self
 have h2:u*2^(63 - u.log2)<2^(u.log2+1)*2^(63 - u.log2):=Nat.mul_lt_mul_of_pos_right h1 (Nat.two_pow_pos _)
 rw [← Nat.pow_add,show u.log2+1+(63 - u.log2)=64 by omega] at h2
 exact h2
theorem pL {n d c:Nat} (h:n<c*2^d):rne n d≤c:=by
 have:=AH n d
 have h2:n / 2^d<c:=(Nat.div_lt_iff_lt_mul (Nat.two_pow_pos _)).2 h
 omega
theorem wR {t k:Nat} (ht:t≤2045) (hk:k≤9007199254740992):min (t*4503599627370496+k) 9218868437227405312=t*4503599627370496+k:=by omega
theorem fZ {u:Nat} {e:Int} (h:u<18446744073709551616) (he:e< -1139):nearR u e=0:=by
 have hl:u.log2<64:=by
  by_cases h0:u=0
  ·subst h0;decide
  ·exact (Nat.log2_lt h0).2 h
 have e3:ao u e= -1074:=by unfold ao;omega
 unfold nearR
 rw [e3,show (e - -1074).toNat=0 by omega,Nat.pow_zero,Nat.mul_one,eL]
 ·rfl
 ·have:(2:Nat)^65≤2^(-1074 - e).toNat:=Nat.pow_le_pow_right (by decide) (by omega)
  omega

theorem iX {u:Nat} {e:Int} (h0:u≠0) (h:u<18446744073709551616) (h1: -1022≤e+u.log2) (h2:e+u.log2≤1023) :
  nearR u e=(e+u.log2+1022).toNat*4503599627370496+rne (u*2^(63 - u.log2)) 11:=by
 have hl:u.log2<64:=(Nat.log2_lt h0).2 h
 have e3:ao u e=e+u.log2 - 52:=by unfold ao;omega
 have hk:rne (u*2^(e - (e+u.log2 - 52)).toNat) (e+u.log2 - 52 - e).toNat=rne (u*2^(63 - u.log2)) 11:=by
  rw [show (e - (e+u.log2 - 52)).toNat=52 - u.log2 by omega,show (e+u.log2 - 52 - e).toNat=u.log2 - 52 by omega]
  by_cases hc:u.log2≤52
  ·have:=cV (u*2^(52 - u.log2)) 0 11
   rw [Nat.mul_assoc,← Nat.pow_add,show 52 - u.log2+11=63 - u.log2 by omega,show 0+11=11 from rfl] at this
   rw [this,show u.log2 - 52=0 by omega]
  ·have:=cV u (u.log2 - 52) (63 - u.log2)
   rw [show u.log2 - 52+(63 - u.log2)=11 by omega] at this
   rw [this,show 52 - u.log2=0 by omega,Nat.pow_zero,Nat.mul_one]
 unfold nearR
 rw [e3,hk,show (e+u.log2 - 52+1074).toNat=(e+u.log2+1022).toNat by omega]
 exact wR (by omega) (pL (pK h0 h))

theorem xT {u:Nat} {e:Int} (h0:u≠0) (h:u<18446744073709551616) (h2:e+u.log2< -1022) :
  nearR u e=rne (u*2^(63 - u.log2)) (-1011 - e - u.log2).toNat:=by
 have hl:u.log2<64:=(Nat.log2_lt h0).2 h
 have e3:ao u e= -1074:=by unfold ao;omega
 have hk:rne (u*2^(e - -1074).toNat) (-1074 - e).toNat=rne (u*2^(63 - u.log2)) (-1011 - e - u.log2).toNat:=by
  by_cases hc:e≤-1074
  ·have:=cV u (-1074 - e).toNat (63 - u.log2)
   rw [show (-1074 - e).toNat+(63 - u.log2)=(-1011 - e - u.log2).toNat by omega] at this
   rw [this,show (e - -1074).toNat=0 by omega,Nat.pow_zero,Nat.mul_one]
  ·have:=cV (u*2^(e - -1074).toNat) 0 (-1011 - e - u.log2).toNat
   rw [Nat.mul_assoc,← Nat.pow_add,show (e - -1074).toNat+(-1011 - e - u.log2).toNat=63 - u.log2 by omega,Nat.zero_add] at this
   rw [this,show (-1074 - e).toNat=0 by omega]
 unfold nearR
 rw [e3,hk,show (-1074+1074:Int).toNat=0 from rfl]
 have hb:rne (u*2^(63 - u.log2)) (-1011 - e - u.log2).toNat≤9007199254740992:=by
  refine pL (Nat.lt_of_lt_of_le (pK h0 h) ?_)
  have:(2:Nat)^11≤2^(-1011 - e - u.log2).toNat:=Nat.pow_le_pow_right (by decide) (by omega)
  omega
 rw [wR (by omega) hb];omega

end Go.Proofs.YtjjlnmihkadlmaaGreat
namespace Go.Proofs.YtjjlnmihkadlmaaGreat

def dgt (N i:Nat):Nat:=N / 2^(32*i) % 4294967296
def nd (N:Nat):Nat:=if N=0 then 0 else N.log2 / 32+1
def bl (N:Nat):Nat:=if N=0 then 0 else N.log2+1

theorem aX (N i:Nat):dgt N i<4294967296:=Nat.mod_lt _ (by decide)
theorem eM (k:Nat):(2:Nat)^(32*(k+1))=2^(32*k)*4294967296:=by
 rw [show 32*(k+1)=32*k+32 by omega,Nat.pow_add]
theorem rD (i:Nat):dgt 0 i=0:=by unfold dgt;rw [Nat.zero_div]
theorem pM:nd 0=0:=rfl

theorem cG (N:Nat):N<2^(32*nd N):=by
 unfold nd
 by_cases h:N=0
 ·subst h;decide
 ·rw [if_neg h]
  refine Nat.lt_of_lt_of_le (Nat.lt_log2_self (n:=N)) (Nat.pow_le_pow_right (by decide) ?_)
  omega
theorem dw {N:Nat} (h:N≠0):1≤nd N:=by unfold nd;rw [if_neg h];omega
theorem Fx {N:Nat} (h:N≠0):2^(32*(nd N - 1))≤N:=by
 unfold nd
 rw [if_neg h]
 refine Nat.le_trans (Nat.pow_le_pow_right (by decide) ?_) (Nat.log2_self_le h)
 omega
theorem Hl {N k:Nat} (h1:2^(32*k)≤N) (h2:N<2^(32*(k+1))):nd N=k+1:=by
 have h:N≠0:=by have:=Nat.two_pow_pos (32*k);omega
 unfold nd
 rw [if_neg h]
 have a:32*k≤N.log2:=(Nat.le_log2 h).2 h1
 have b:N.log2<32*(k+1):=(Nat.log2_lt h).2 h2
 omega
theorem ct {N k:Nat} (h:N<2^(32*k)):nd N≤k:=by
 by_cases h0:N=0
 ·subst h0;exact Nat.zero_le _
 ·unfold nd;rw [if_neg h0]
  have b:N.log2<32*k:=(Nat.log2_lt h0).2 h
  omega

theorem jK {N k:Nat} (h:N<2^(32*(k+1))):dgt N k=N / 2^(32*k):=by
 unfold dgt
 apply Nat.mod_eq_of_lt
 rw [Nat.div_lt_iff_lt_mul (Nat.two_pow_pos _),Nat.mul_comm,← eM];exact h
theorem jL {N i:Nat} (h:N<2^(32*i)):dgt N i=0:=by
 unfold dgt;rw [Nat.div_eq_of_lt h]
theorem AI {N i:Nat} (h:nd N≤i):dgt N i=0:=
 jL (Nat.lt_of_lt_of_le (cG N) (Nat.pow_le_pow_right (by decide) (by omega)))
theorem xU {M n:Nat} (h:M<2^(32*(n+1))) (h0:dgt M n=0):M<2^(32*n):=by
 rw [jK h] at h0
 exact (Nat.div_eq_zero_iff_lt (Nat.two_pow_pos _)).1 h0
theorem AJ {M n:Nat} (h:M<2^(32*(n+1))) (h0:dgt M n≠0):nd M=n+1:=by
 refine Hl ?_ h
 rw [jK h] at h0
 rcases Nat.lt_or_ge M (2^(32*n)) with h1 | h1
 ·exact absurd (Nat.div_eq_of_lt h1) h0
 ·exact h1
theorem DJ {N:Nat} (h:N≠0):dgt N (nd N - 1)=N / 2^(32*(nd N - 1)):=by
 apply jK
 have:=dw h
 rw [show nd N - 1+1=nd N by omega]
 exact cG N
theorem FI {N:Nat} (h:N≠0):bl N=32*(nd N - 1)+bl (dgt N (nd N - 1)):=by
 have h1:=Fx h
 rw [DJ h]
 have hp:=Nat.two_pow_pos (32*(nd N - 1))
 have h2:N / 2^(32*(nd N - 1))≠0:=by
  have:=(Nat.one_le_div_iff hp).2 h1
  omega
 unfold bl
 rw [if_neg h,if_neg h2]
 have e:N.log2=(N / 2^(32*(nd N - 1))).log2+32*(nd N - 1):=by
  rw [Nat.log2_eq_iff h]
  have a:=Nat.log2_self_le h2
  have b:N / 2^(32*(nd N - 1))<2^((N / 2^(32*(nd N - 1))).log2+1):=Nat.lt_log2_self
  constructor
  ·rw [Nat.pow_add];exact (Nat.le_div_iff_mul_le hp).1 a
  ·rw [show (N / 2^(32*(nd N - 1))).log2+32*(nd N - 1)+1=((N / 2^(32*(nd N - 1))).log2+1)+32*(nd N - 1) by omega,Nat.pow_add]
   exact (Nat.div_lt_iff_lt_mul hp).1 b
 omega
theorem DK {x:Nat} (h:x≠0):bl x=bl (x / 2)+1:=by
 unfold bl
 rw [if_neg h]
 by_cases h1:x / 2=0
 ·have:x=1:=by omega
  subst this;decide
 ·rw [if_neg h1,Nat.log2_def x,if_pos (by omega)]

theorem dM (N i:Nat):N % 2^(32*(i+1))=N % 2^(32*i)+dgt N i*2^(32*i):=by
 unfold dgt
 rw [eM,Nat.mod_mul,Nat.mul_comm (2^(32*i))]

theorem FJ {M x k r j:Nat} (hM:M<2^r*2^(32*k)) (hx:x<2^63) (hd:x % 2^r=0) (hr:r≤32) :
  dgt (M+x*2^(32*k)) j=if j<k then dgt M j else if j=k then dgt M k+x % 4294967296 else if j=k+1 then x / 4294967296 else 0:=by
 have hp:=Nat.two_pow_pos (32*k)
 have ha:M / 2^(32*k)<2^r:=(Nat.div_lt_iff_lt_mul hp).2 hM
 have hr2:(2:Nat)^r≤2^32:=Nat.pow_le_pow_right (by decide) hr
 have hq:(M+x*2^(32*k)) / 2^(32*k)=M / 2^(32*k)+x:=by rw [Nat.add_mul_div_right _ _ hp]
 have hak:dgt M k=M / 2^(32*k):=Nat.mod_eq_of_lt (by omega)
 have hnc:M / 2^(32*k)+x % 4294967296<4294967296:=by
  have e1:(4294967296:Nat)=2^r*2^(32 - r):=by rw [← Nat.pow_add,show r+(32 - r)=32 by omega]
  have e2:x % 4294967296=2^r*(x / 2^r % 2^(32 - r)):=by
   rw [e1,Nat.mod_mul,hd,Nat.zero_add]
  have h3:x / 2^r % 2^(32 - r)<2^(32 - r):=Nat.mod_lt _ (Nat.two_pow_pos _)
  rw [e2]
  have h4:2^r*(x / 2^r % 2^(32 - r)+1)≤2^r*2^(32 - r):=Nat.mul_le_mul_left _ h3
  rw [Nat.mul_add,Nat.mul_one,← e1] at h4
  omega
 by_cases h1:j<k
 ·rw [if_pos h1]
  unfold dgt
  have e:x*2^(32*k)=(x*2^(32*(k - j - 1))*4294967296)*2^(32*j):=by
   rw [Nat.mul_assoc,Nat.mul_assoc,Nat.mul_comm 4294967296,← eM,← Nat.pow_add];congr 2;omega
  rw [e,Nat.add_mul_div_right _ _ (Nat.two_pow_pos _),Nat.add_mul_mod_self_right]
 ·rw [if_neg h1]
  have hs:(M+x*2^(32*k)) / 2^(32*j)=(M / 2^(32*k)+x) / 2^(32*(j - k)):=by
   rw [← hq,Nat.div_div_eq_div_mul,← Nat.pow_add];congr 2;omega
  unfold dgt at *
  rw [hs]
  by_cases h2:j=k
  ·rw [if_pos h2,hak,h2,Nat.sub_self,Nat.mul_zero,Nat.pow_zero,Nat.div_one];omega
  ·rw [if_neg h2]
   by_cases h3:j=k+1
   ·rw [if_pos h3,h3,show k+1 - k=1 by omega,show (2:Nat)^(32*1)=4294967296 from rfl];omega
   ·rw [if_neg h3]
    have:(M / 2^(32*k)+x) / 2^(32*(j - k))=0:=by
     apply Nat.div_eq_of_lt
     have:(2:Nat)^(32*2)≤2^(32*(j - k)):=Nat.pow_le_pow_right (by decide) (by omega)
     omega
    rw [this]
end Go.Proofs.YtjjlnmihkadlmaaGreat
namespace Go.Proofs.YtjjlnmihkadlmaaGreat

def aA (N:Nat) (e:Int):Int:=max ((bl N:Int) - 53+e) (-1074)
def kp (N d:Nat) (more:Bool):Nat:=N / 2^d+(if N / 2^(d - 1) % 2=1∧(N % 2^(d - 1)≠0∨more=true∨N / 2^d % 2=1) then 1 else 0)
def iq (N:Nat) (e:Int) (more:Bool):Nat:=if aA N e≤e then N*2^(e - aA N e).toNat else kp N (aA N e - e).toNat more
def rnd53 (N:Nat) (e:Int) (more:Bool):Nat:=(aA N e+1074).toNat*4503599627370496+iq N e more

theorem gc {N:Nat} (h:N≠0):bl N=N.log2+1:=by unfold bl;rw [if_neg h]
theorem AK (N:Nat):N<2^bl N:=by
 unfold bl
 by_cases h:N=0
 ·subst h;decide
 ·rw [if_neg h];exact Nat.lt_log2_self
theorem oc (N:Nat):bl N≤32*nd N:=by
 unfold bl nd
 by_cases h:N=0
 ·rw [if_pos h];omega
 ·rw [if_neg h,if_neg h];omega

theorem pN (N:Nat) (e:Int): -1074≤aA N e:=by unfold aA;omega
theorem wS {N:Nat} {e:Int} (h:aA N e≤e):N*2^(e - aA N e).toNat<9007199254740992:=by
 have h1:(bl N:Int) - 53+e≤aA N e:=by unfold aA;omega
 have h2:=AK N
 calc N*2^(e - aA N e).toNat<2^bl N*2^(e - aA N e).toNat:=Nat.mul_lt_mul_of_pos_right h2 (Nat.two_pow_pos _)
  _=2^(bl N+(e - aA N e).toNat):=by rw [Nat.pow_add]
  _≤2^53:=Nat.pow_le_pow_right (by decide) (by omega)
theorem oe {N:Nat} {e:Int} (h:e<aA N e):N / 2^(aA N e - e).toNat<9007199254740992:=by
 have h1:(bl N:Int) - 53+e≤aA N e:=by unfold aA;omega
 have h2:=AK N
 rw [Nat.div_lt_iff_lt_mul (Nat.two_pow_pos _),show (9007199254740992:Nat)=2^53 from rfl,← Nat.pow_add]
 exact Nat.lt_of_lt_of_le h2 (Nat.pow_le_pow_right (by decide) (by omega))
theorem AL (N d:Nat) (more:Bool):kp N d more≤N / 2^d+1:=by unfold kp;split<;>omega
theorem DL (N:Nat) (e:Int) (more:Bool):iq N e more≤9007199254740992:=by
 unfold iq
 by_cases h:aA N e≤e
 ·rw [if_pos h];exact Nat.le_of_lt (wS h)
 ·rw [if_neg h]
  have h1:=oe (N:=N) (e:=e) (by omega)
  have h2:=AL N (aA N e - e).toNat more
  omega

theorem fq {K:Nat} (h:K<18446744073709551616):dgt K 0+dgt K 1*4294967296=K:=by
 unfold dgt
 rw [Nat.mul_zero,Nat.pow_zero,Nat.div_one,show (2:Nat)^(32*1)=4294967296 from rfl];omega

theorem xW {N d:Nat} (hd:1≤d):kp N d false=rne N d:=by
 unfold kp rne
 congr 1
 obtain⟨k,rfl⟩:∃ k,d=k+1:=⟨d - 1,by omega⟩
 rw [Nat.add_sub_cancel]
 have e:N % 2^(k+1)=N % 2^k+2^k*(N / 2^k % 2):=by rw [Nat.pow_succ,Nat.mod_mul]
 have hp:=Nat.two_pow_pos k
 have hlt:N % 2^k<2^k:=Nat.mod_lt _ hp
 rw [e,Nat.pow_succ]
 have hb:N / 2^k % 2=0∨N / 2^k % 2=1:=by omega
 rcases hb with hb | hb
 ·rw [hb,if_neg (by omega),if_neg (by omega)]
 ·rw [hb,Nat.mul_one]
  by_cases h0:N % 2^k=0
  ·by_cases h1:N / (2^k*2) % 2=1
   ·rw [if_pos ⟨rfl,Or.inr (Or.inr h1)⟩,if_pos (Or.inr ⟨by omega,h1⟩)]
   ·rw [if_neg (by simp;omega),if_neg (by omega)]
  ·rw [if_pos ⟨rfl,Or.inl h0⟩,if_pos (Or.inl (by omega))]

theorem AM {N:Nat} (e:Int) (h:N≠0):min (rnd53 N e false) 9218868437227405312=nearR N e:=by
 have hl:aA N e=ao N e:=by unfold aA ao;rw [gc h];omega
 unfold rnd53 iq nearR
 rw [hl]
 congr 2
 by_cases hc:ao N e≤e
 ·rw [if_pos hc,show (ao N e - e).toNat=0 by omega,dL]
 ·rw [if_neg hc,xW (by omega),show (e - ao N e).toNat=0 by omega,Nat.pow_zero,Nat.mul_one]
end Go.Proofs.YtjjlnmihkadlmaaGreat
namespace Go.Proofs.YtjjlnmihkadlmaaGreat

theorem wV (S k j:Nat):dgt (S % 2^(32*k)) j=if j<k then dgt S j else 0:=by
 by_cases h:j<k
 ·rw [if_pos h]
  unfold dgt
  have e:(2:Nat)^(32*k)=2^(32*j)*(2^(32*(k - j - 1))*4294967296):=by
   rw [← eM,← Nat.pow_add];congr 1;omega
  rw [e,Nat.mod_mul_right_div_self,Nat.mod_mod_of_dvd _ (Nat.dvd_mul_left _ _)]
 ·rw [if_neg h]
  exact jL (Nat.lt_of_lt_of_le (Nat.mod_lt _ (Nat.two_pow_pos _)) (Nat.pow_le_pow_right (by decide) (by omega)))

def cry (A B k:Nat):Nat:=(A % 2^(32*k)+B % 2^(32*k)) / 2^(32*k)
theorem rO (A B:Nat):cry A B 0=0:=by
 unfold cry;rw [Nat.mul_zero,Nat.pow_zero,Nat.mod_one,Nat.mod_one]
theorem FO (A B k:Nat):cry A B k≤1:=by
 unfold cry
 have h1:A % 2^(32*k)<2^(32*k):=Nat.mod_lt _ (Nat.two_pow_pos _)
 have h2:B % 2^(32*k)<2^(32*k):=Nat.mod_lt _ (Nat.two_pow_pos _)
 have:(A % 2^(32*k)+B % 2^(32*k)) / 2^(32*k)<2:=by
  rw [Nat.div_lt_iff_lt_mul (Nat.two_pow_pos _)];omega
 omega
theorem rP (A B k:Nat):cry A B (k+1)=(dgt A k+dgt B k+cry A B k) / 4294967296:=by
 have hp:=Nat.two_pow_pos (32*k)
 unfold cry
 rw [dM,dM,eM,← Nat.div_div_eq_div_mul]
 congr 1
 generalize A % 2^(32*k)=a
 generalize B % 2^(32*k)=b
 rw [show a+dgt A k*2^(32*k)+(b+dgt B k*2^(32*k))=(a+b)+(dgt A k+dgt B k)*2^(32*k) by rw [Nat.add_mul];omega,Nat.add_mul_div_right _ _ hp]
 omega
theorem wW (A B k:Nat):dgt (A+B) k=(dgt A k+dgt B k+cry A B k) % 4294967296:=by
 have hp:=Nat.two_pow_pos (32*k)
 unfold dgt cry
 generalize hP:2^(32*k)=P at *
 have ha:=Nat.div_add_mod A P
 have hb:=Nat.div_add_mod B P
 have e:A+B=(A % P+B % P)+(A / P+B / P)*P:=by rw [Nat.add_mul,Nat.mul_comm (A / P),Nat.mul_comm (B / P)];omega
 rw [show (A+B) / P=(A % P+B % P) / P+(A / P+B / P) by rw (config:={ occs:=.pos [1] }) [e];rw [Nat.add_mul_div_right _ _ hp]]
 omega

theorem yj {A B k a b c s:Nat} (ha:a=dgt A k) (hb:b=dgt B k) (hc:c=cry A B k) (hs:s=a+b+c) :
  s % 4294967296=dgt (A+B) k∧s / 4294967296=cry A B (k+1):=by
 subst ha hb hc hs
 exact⟨(wW A B k).symm,(rP A B k).symm⟩
theorem yk {B D k a b c:Nat} (ha:a=dgt (B+D) k) (hb:b=dgt B k) (hc:c=cry B D k) :
  b+c≤a+4294967296∧(a+4294967296 - b - c) % 4294967296=dgt D k∧(a+4294967296 - b - c) / 4294967296≤1∧1 - (a+4294967296 - b - c) / 4294967296=cry B D (k+1):=by
 have h1:=wW B D k
 have h2:=rP B D k
 have h3:=aX D k
 have h4:=aX B k
 have h5:=FO B D k
 have h6:=aX (B+D) k
 subst ha hb hc
 rw [h2]
 generalize dgt (B+D) k=x at *
 generalize dgt B k=y at *
 generalize dgt D k=z at *
 generalize cry B D k=c at *
 omega

theorem div_step (A k:Nat):A / 2^(32*k)=A / 2^(32*(k+1))*4294967296+dgt A k:=by
 unfold dgt
 rw [eM,← Nat.div_div_eq_div_mul]
 omega
theorem om {A B k:Nat} (h:A / 2^(32*(k+1))=B / 2^(32*(k+1))) (hd:dgt A k<dgt B k):A<B:=by
 have h1:=div_step A k
 have h2:=div_step B k
 rcases Nat.lt_or_ge A B with h3 | h3
 ·exact h3
 ·have:=Nat.div_le_div_right (c:=2^(32*k)) h3
  omega
theorem yl {A B k:Nat} (h:A / 2^(32*(k+1))=B / 2^(32*(k+1))) (hd:dgt A k=dgt B k):A / 2^(32*k)=B / 2^(32*k):=by
 rw [div_step A k,div_step B k,h,hd]
theorem rQ {A B:Nat} (h:nd A<nd B):A<B:=by
 have h0:B≠0:=by intro h0;rw [h0,pM] at h;omega
 have h1:=cG A
 have h2:=Fx h0
 exact Nat.lt_of_lt_of_le h1 (Nat.le_trans (Nat.pow_le_pow_right (by decide) (by omega)) h2)
def jP (A B:Nat):Int:=if A<B then -1 else if A=B then 0 else 1
theorem jb {A B:Nat} (h:A<B):jP A B= -1:=if_pos h
theorem jc {A B:Nat} (h:A=B):jP A B=0:=by unfold jP;rw [if_neg (by omega),if_pos h]
theorem jd {A B:Nat} (h:B<A):jP A B=1:=by unfold jP;rw [if_neg (by omega),if_neg (by omega)]
theorem sum_lt {A B m n L:Nat} (hA:A<2^(32*m)) (hB:B<2^(32*n)) (hm:m<L) (hn:n<L):A+B<2^(32*L):=by
 have e:(2:Nat)^(32*(L - 1+1))=2^(32*(L - 1))*4294967296:=eM (L - 1)
 rw [show L - 1+1=L by omega] at e
 have h1:(2:Nat)^(32*m)≤2^(32*(L - 1)):=Nat.pow_le_pow_right (by decide) (by omega)
 have h2:(2:Nat)^(32*n)≤2^(32*(L - 1)):=Nat.pow_le_pow_right (by decide) (by omega)
 omega
end Go.Proofs.YtjjlnmihkadlmaaGreat
namespace Go.Proofs.YtjjlnmihkadlmaaGreat

theorem DZ {xs vs ys:List Nat} {N M:Int} {c n:Nat} (h:Sg xs N) (h':Sg vs M) (hx:xs.length≤n+1) (hv:vs.length≤n+1) (hy:ys.length=n+1) (hf:FitW ys) (hr:Rel 1 (fun i=>ys.getD i 0) (wd xs) (wd vs) c (n+1)):Sg (settle ys) (N+M):=by
 have e1:=h.ext hx
 have e2:=h'.ext hv
 have r1:=h.range hx
 have r2:=h'.range hv
 have b1: -(2^(64*n))≤N∧N<2^(64*n):=by
  have:=bj n;have:=cb n
  by_cases e:endW xs=0
  ·have:=r1.1 e;omega
  ·have:=r1.2 e;omega
 have b2: -(2^(64*n))≤M∧M<2^(64*n):=by
  have:=bj n;have:=cb n
  by_cases e:endW vs=0
  ·have:=r2.1 e;omega
  ·have:=r2.2 e;omega
 have hp:(0:Int)<2^(64*n):=by have:=bj n;have:=cb n;omega
 obtain⟨a,ha⟩:∃ a:Int,N=(ps (wd xs) (n+1):Int) - a*2^(64*(n+1)):=by
  by_cases e:endW xs=0
  ·exact⟨0,by rw [if_pos e] at e1;rw [Int.zero_mul];exact e1⟩
  ·exact⟨1,by rw [if_neg e] at e1;rw [Int.one_mul];exact e1⟩
 obtain⟨b,hb⟩:∃ b:Int,M=(ps (wd vs) (n+1):Int) - b*2^(64*(n+1)):=by
  by_cases e:endW vs=0
  ·exact⟨0,by rw [if_pos e] at e2;rw [Int.zero_mul];exact e2⟩
  ·exact⟨1,by rw [if_neg e] at e2;rw [Int.one_mul];exact e2⟩
 unfold Rel at hr
 refine oq (q:=a+b - c) hf (by omega) ?_ ?_ ?_
 ·rw [hy,Int.sub_mul,Int.add_mul];omega
 ·rw [hy,dP];omega
 ·rw [hy,dP];omega

theorem Ea {xs ys:List Nat} {N s:Int} {f:Nat→Nat} {c n:Nat} {F:Nat} (h:Sg xs N) (hx:xs.length=n+1) (hy:ys.length=n+1) (hf:FitW ys) (hs:s=1∨s= -1) (hF:ps f (n+1)=F) (hb:4*(F:Int)≤2^(64*(n+1))) (hr:Rel s (fun i=>ys.getD i 0) (fun i=>xs.getD i 0) f c (n+1)):Sg (settle ys) (N+s*F):=by
 have e1:=h.ext (n:=n+1) (by omega)
 rw [wZ (by omega)] at e1
 have r1:=h.range (n:=n) (by omega)
 have b1: -(2^(64*n))≤N∧N<2^(64*n):=by
  have:=bj n;have:=cb n
  by_cases e:endW xs=0
  ·have:=r1.1 e;omega
  ·have:=r1.2 e;omega
 have hp:(0:Int)<2^(64*n):=by have:=bj n;have:=cb n;omega
 obtain⟨a,ha⟩:∃ a:Int,N=(ps (fun i=>xs.getD i 0) (n+1):Int) - a*2^(64*(n+1)):=by
  by_cases e:endW xs=0
  ·exact⟨0,by rw [if_pos e] at e1;rw [Int.zero_mul];exact e1⟩
  ·exact⟨1,by rw [if_neg e] at e1;rw [Int.one_mul];exact e1⟩
 unfold Rel at hr
 rw [hF] at hr
 rw [dP] at hb
 have hsF: -(4*F:Int)≤4*(s*F)∧4*(s*F)≤4*(F:Int):=by
  rcases hs with rfl | rfl<;>constructor<;>omega
 refine oq (q:=a - s*c) hf (by omega) ?_ ?_ ?_
 ·rw [hy,Int.sub_mul,Int.mul_assoc s];omega
 ·rw [hy,dP];omega
 ·rw [hy,dP];omega

theorem Eb {xs ys:List Nat} {N:Int} {c:Nat} (h:Sg xs N) (hy:ys.length=xs.length) (hr:Rel (-1) (fun i=>ys.getD i 0) (fun _=>0) (fun i=>xs.getD i 0) c xs.length):∃ q:Int,(ps (fun i=>ys.getD i 0) ys.length:Int)= -N+q*2^(64*ys.length):=by
 have e1:=h.eq
 rw [wZ (Nat.le_refl _)] at e1
 unfold Rel at hr
 rw [kU] at hr
 by_cases e:endW xs=0
 ·refine⟨c,?_⟩
  rw [if_pos e] at e1
  rw [hy];omega
 ·refine⟨(c:Int) - 1,?_⟩
  rw [if_neg e] at e1
  rw [hy,Int.sub_mul];omega
theorem Bg {xs ys:List Nat} {N:Int} {c:Nat} (h:Sg xs N) (he:endW xs≠0) (hy:ys.length=xs.length) (hf:FitW ys) (hr:Rel (-1) (fun i=>ys.getD i 0) (fun _=>0) (fun i=>xs.getD i 0) c xs.length):N<0∧(ps (fun i=>ys.getD i 0) ys.length:Int)= -N:=by
 have h0:xs.length≠0:=by
  intro e
  apply he
  have:xs=[]:=List.length_eq_zero_iff.1 e
  subst this;rfl
 obtain⟨n,hn⟩:∃ n,xs.length=n+1:=⟨xs.length - 1,by omega⟩
 have r1:=(h.range (n:=n) (by omega)).2 he
 refine⟨r1.2,?_⟩
 have hp:(0:Int)<2^(64*n):=by have:=bj n;have:=cb n;omega
 obtain⟨q,hq⟩:=Eb h hy hr
 have b:=kt hf ys.length
 have b2:(ps (fun i=>ys.getD i 0) ys.length:Int)<2^(64*ys.length):=by have:=cb ys.length;omega
 rw [hy,hn] at hq b2 ⊢
 have hR:=dP n
 generalize (2:Int)^(64*(n+1))=R at *
 have a:q*R<1*R:=by omega
 have b3:(-1)*R<q*R:=by omega
 have a2:=Int.lt_of_mul_lt_mul_right a (by omega)
 have b4:=Int.lt_of_mul_lt_mul_right b3 (by omega)
 have:q=0:=by omega
 subst this;omega

theorem uN {hi lo off:Nat} (ho:off<64) (hl:lo<18446744073709551616):(hi*2^off % 18446744073709551616)||| (lo / 2^(64 - off))=hi*2^off % 18446744073709551616+lo / 2^(64 - off):=by
 have e:(18446744073709551616:Nat)=2^off*2^(64 - off):=by rw [← Nat.pow_add,show off+(64 - off)=64 by omega]
 have h1:hi*2^off % 18446744073709551616=2^off*(hi % 2^(64 - off)):=by
  rw [e,Nat.mul_comm hi,Nat.mul_mod_mul_left]
 have h2:lo / 2^(64 - off)<2^off:=by
  rw [Nat.div_lt_iff_lt_mul (Nat.two_pow_pos _),← e];exact hl
 rw [h1,← Nat.two_pow_add_eq_or_of_lt h2]
theorem lI {hi lo off:Nat} (ho:off<64) :
  lo*2^off % 18446744073709551616+(hi*2^off % 18446744073709551616+lo / 2^(64 - off))*18446744073709551616+hi / 2^(64 - off)*(18446744073709551616*18446744073709551616)=(hi*18446744073709551616+lo)*2^off:=by
 have e:(18446744073709551616:Nat)=2^off*2^(64 - off):=by rw [← Nat.pow_add,show off+(64 - off)=64 by omega]
 have hd:∀ x:Nat,x / 2^(64 - off)=x*2^off / 18446744073709551616:=fun x=>by
  rw [e,Nat.mul_comm x,Nat.mul_div_mul_left _ _ (Nat.two_pow_pos _)]
 rw [hd lo,hd hi,Nat.add_mul (hi*18446744073709551616)]
 have e1:=Nat.div_add_mod (lo*2^off) 18446744073709551616
 have e2:=Nat.div_add_mod (hi*2^off) 18446744073709551616
 have e3:hi*18446744073709551616*2^off=hi*2^off*18446744073709551616:=by rw [Nat.mul_right_comm]
 rw [e3]
 generalize lo*2^off=A at *
 generalize hi*2^off=B at *
 omega

theorem lJ {M t d:Nat} (hd:2≤d):rne (if M % 2^t=0 then M / 2^t else (if M / 2^t % 2=1 then M / 2^t else M / 2^t+1)) d=rne M (d+t):=by
 by_cases h0:M % 2^t=0
 ·rw [if_pos h0]
  have e:M=M / 2^t*2^t:=by have:=Nat.div_add_mod M (2^t);rw [h0,Nat.add_zero,Nat.mul_comm] at this;exact this.symm
  conv=>rhs;rw [e]
  rw [cV]
 ·rw [if_neg h0]
  obtain⟨a,ha⟩:∃ a,a=M / 2^t:=⟨_,rfl⟩
  obtain⟨r,hr⟩:∃ r,r=M % 2^t:=⟨_,rfl⟩
  rw [← ha]
  have hM:M=a*2^t+r:=by rw [ha,hr,Nat.mul_comm];exact (Nat.div_add_mod M (2^t)).symm
  have hrt:r<2^t:=by rw [hr];exact Nat.mod_lt _ (Nat.two_pow_pos _)
  have hr0:r≠0:=by rw [hr];exact h0
  obtain⟨D,hD⟩:∃ D,(2:Nat)^d=4*D:=⟨2^(d - 2),by rw [show (4:Nat)=2^2 from rfl,← Nat.pow_add];congr 1;omega⟩
  have hDp:0<D:=by have:=Nat.two_pow_pos d;omega
  obtain⟨b,hb⟩:∃ b,b=if a % 2=1 then a else a+1:=⟨_,rfl⟩
  rw [← hb]
  have hbd:b / 2^d=a / 2^d∧b % 2^d=a % 2^d+(b - a)∧b % 2=1:=by
   by_cases ho:a % 2=1
   ·rw [if_pos ho] at hb;subst hb;simp [ho]
   ·rw [if_neg ho] at hb
    have h1:a % 2^d % 2=0:=by rw [hD,show 4*D=2*(2*D) by omega,Nat.mod_mul_right_mod];omega
    have h2:=Nat.mod_lt a (Nat.two_pow_pos d)
    have h3:a % 2^d+1<2^d:=by omega
    have h4:=Nat.div_add_mod a (2^d)
    have e:b=a % 2^d+1+2^d*(a / 2^d):=by omega
    refine⟨?_,?_,by omega⟩
    ·rw [e,Nat.add_mul_div_left _ _ (Nat.two_pow_pos _),Nat.div_eq_of_lt h3,Nat.zero_add]
    ·rw [e,Nat.add_mul_mod_self_left,Nat.mod_eq_of_lt h3];omega
  have hMd:M / 2^(d+t)=a / 2^d:=by rw [Nat.add_comm,Nat.pow_add,← Nat.div_div_eq_div_mul,← ha]
  have hMm:M % 2^(d+t)=a % 2^d*2^t+r:=by
   rw [Nat.add_comm,Nat.pow_add,Nat.mod_mul,← ha,← hr,Nat.mul_comm (2^t)];omega
  unfold rne
  rw [hbd.1,hMd,hbd.2.1,hMm,Nat.add_comm d t,Nat.pow_add 2 t d]
  have hcond:∀ (x:Nat),x=a % 2^d→b - a≤1→(b - a=0↔x % 2=1)→((2^d<2*(x+(b - a))∨(2^d=2*(x+(b - a))∧a / 2^d % 2=1))↔(2^t*2^d<2*(x*2^t+r)∨(2^t*2^d=2*(x*2^t+r)∧a / 2^d % 2=1))):=by
   intro x hx h1 h2
   have hT:=Nat.two_pow_pos t
   generalize (2:Nat)^t=T at *
   rw [hD]
   have key:4*D<2*(x+(b - a))↔T*(4*D)<2*(x*T+r):=by
    constructor
    ·intro h
     have h5:2*D≤x:=by omega
     have h6:2*D*T≤x*T:=Nat.mul_le_mul_right _ h5
     have h7:T*(4*D)=2*(2*D*T):=by rw [Nat.mul_comm T,show 4*D=2*(2*D) by omega,Nat.mul_assoc]
     omega
    ·intro h
     have h7:T*(4*D)=2*(2*D*T):=by rw [Nat.mul_comm T,show 4*D=2*(2*D) by omega,Nat.mul_assoc]
     rcases Nat.lt_or_ge x (2*D) with h5 | h5
     ·have h6:(x+1)*T≤2*D*T:=Nat.mul_le_mul_right _ h5
      rw [Nat.add_mul,Nat.one_mul] at h6
      omega
     ·omega
   have k2:¬ (4*D=2*(x+(b - a))):=by omega
   have k3:¬ (T*(4*D)=2*(x*T+r)):=by
    have h7:T*(4*D)=2*(2*D*T):=by rw [Nat.mul_comm T,show 4*D=2*(2*D) by omega,Nat.mul_assoc]
    intro h
    have h8:2*D*T=x*T+r:=by omega
    rcases Nat.lt_or_ge x (2*D) with h5 | h5
    ·have h6:(x+1)*T≤2*D*T:=Nat.mul_le_mul_right _ h5
     rw [Nat.add_mul,Nat.one_mul] at h6
     omega
    ·have h6:2*D*T≤x*T:=Nat.mul_le_mul_right _ h5
     omega
   rw [key]
   constructor
   ·rintro (h | h)
    ·exact Or.inl h
    ·exact absurd h.1 k2
   ·rintro (h | h)
    ·exact Or.inl h
    ·exact absurd h.1 k3
  have h1:a % 2^d % 2=a % 2:=by rw [hD,show 4*D=2*(2*D) by omega,Nat.mod_mul_right_mod]
  have:=hcond (a % 2^d) rfl (by by_cases ho:a % 2=1;rw [if_pos ho] at hb;omega;rw [if_neg ho] at hb;omega) (by rw [h1];by_cases ho:a % 2=1;rw [if_pos ho] at hb;omega;rw [if_neg ho] at hb;omega)
  simp only [this]
end Go.Proofs.YtjjlnmihkadlmaaGreat
