/-  -/
import Derived.Test.YtfdddijdjpijbaaGreatHaa
import Derived.Laws.FloatArith
namespace Go.Proofs.YtfdddijdjpijbaaGreat
def mg (r:Nat):Nat:=if r<4503599627370496 then r else 4503599627370496+r % 4503599627370496
def pl (r:Nat):Nat:=r / 4503599627370496 - 1
def V (r:Nat):Nat:=mg r*2^pl r
theorem nF (r:Nat):mg r<9007199254740992:=by unfold mg;split<;>omega
theorem Da {r:Nat} (h:4503599627370496<=r):4503599627370496<=mg r:=by unfold mg;split<;>omega
theorem Me {r s:Nat} (h:r<s):V r<V s:=by
 unfold V
 by_cases b:pl r=pl s
 ·rw [b];refine Nat.mul_lt_mul_of_pos_right ?_ (Nat.two_pow_pos _)
  unfold pl at b
  unfold mg
  split<;>split<;>omega
 ·have a:pl r<pl s:=by
   have:pl r<=pl s:=by unfold pl;omega
   omega
  have e:=nF r;have c:4503599627370496<=mg s:=Da (by unfold pl at a;omega)
  have d:2^(pl r+1)<=2^pl s:=Nat.pow_le_pow_right (by decide) a
  calc mg r*2^pl r<9007199254740992*2^pl r:=Nat.mul_lt_mul_of_pos_right e (Nat.two_pow_pos _)
   _=4503599627370496*2^(pl r+1):=by rw [Nat.pow_succ];omega
   _<=4503599627370496*2^pl s:=Nat.mul_le_mul_left _ d
   _<=mg s*2^pl s:=Nat.mul_le_mul_right _ c
theorem El {r s:Nat} (h:r<=s):V r<=V s:=by
 rcases Nat.lt_or_eq_of_le h with h | h
 ·exact Nat.le_of_lt (Me h)
 ·rw [h];exact Nat.le_refl _
theorem cN {r s:Nat}:V r<V s↔r<s:=by
 refine⟨fun h=>?_,Me⟩
 rcases Nat.lt_or_ge r s with a | a
 ·exact a
 ·exact absurd h (Nat.not_lt.2 (El a))
theorem fD {r s:Nat}:V r=V s↔r=s:=by
 refine⟨fun h=>?_,fun h=>by rw [h]⟩
 rcases Nat.lt_trichotomy r s with a | a | a
 ·have:=Me a;omega
 ·exact a
 ·have:=Me a;omega
theorem bp:V 0=0:=by decide
theorem ax {b:Nat} (h:b % 9223372036854775808<9218868437227405312) :
  Ieee.double.read b=.number (b / 9223372036854775808 % 2==1) (mg (b % 9223372036854775808)) (-1074+(pl (b % 9223372036854775808):Int)):=by
 show (if b % 9223372036854775808<4503599627370496 then Ieee.Datum.number (b / 9223372036854775808 % 2==1) (b % 9223372036854775808) (-1074) else
  if b % 9223372036854775808<9218868437227405312 then .number (b / 9223372036854775808 % 2==1) (4503599627370496+b % 9223372036854775808 % 4503599627370496) (-1074+((b % 9223372036854775808 / 4503599627370496 - 1:Nat):Int)) else _)=_
 generalize b % 9223372036854775808=r at *
 unfold mg pl
 by_cases a:r<4503599627370496
 ·rw [if_pos a,if_pos a,show r / 4503599627370496 - 1=0 by omega];rfl
 ·rw [if_neg a,if_pos h,if_neg a]
theorem aS {b:Nat} (h:b % 9223372036854775808=9218868437227405312):Ieee.double.read b=.infinity (b / 9223372036854775808 % 2==1):=by
 show (if b % 9223372036854775808<4503599627370496 then _ else if b % 9223372036854775808<9218868437227405312 then _ else
  if b % 9223372036854775808=9218868437227405312 then Ieee.Datum.infinity (b / 9223372036854775808 % 2==1) else _)=_
 rw [h];rfl
theorem lf {b:Nat} (h:9218868437227405312<b % 9223372036854775808):∃ f,Ieee.double.read b=.nan (b / 9223372036854775808 % 2==1) f:=by
 refine⟨b % 9223372036854775808 - 9218868437227405312,?_⟩
 show (if b % 9223372036854775808<4503599627370496 then _ else if b % 9223372036854775808<9218868437227405312 then _ else
  if b % 9223372036854775808=9218868437227405312 then _ else Ieee.Datum.nan (b / 9223372036854775808 % 2==1) (b % 9223372036854775808 - 9218868437227405312))=_
 rw [if_neg (by omega),if_neg (by omega),if_neg (by omega)]
theorem uP {x y d c:Int} (f:x<y↔d<c) (e:x=y↔d=c):compare x y=compare d c:=by
 show compareOfLessAndEq x y=compareOfLessAndEq d c
 unfold compareOfLessAndEq
 by_cases a:x<y
 ·rw [if_pos a,if_pos (f.1 a)]
 ·rw [if_neg a,if_neg (fun h=>a (f.2 h))]
  by_cases b:x=y
  ·rw [if_pos b,if_pos (e.1 b)]
  ·rw [if_neg b,if_neg (fun h=>b (e.2 h))]
theorem pw (x y:Int):(compare x y==.lt)=decide (x<y):=by
 show (compareOfLessAndEq x y==.lt)=_
 unfold compareOfLessAndEq
 by_cases a:x<y
 ·simp [a]
 ·by_cases b:x=y<;>simp [a,b]
theorem pA (x y:Int):(compare x y==.eq)=decide (x=y):=by
 show (compareOfLessAndEq x y==.eq)=_
 unfold compareOfLessAndEq
 by_cases a:x<y
 ·have:¬ x=y:=by omega
  simp [a,this]
 ·by_cases b:x=y<;>simp [a,b]
def sgn (s:Bool) (r:Nat):Int:=if s then -(r:Int) else (r:Int)
theorem Em (s t:Bool) (r a:Nat) :
  Ieee.Datum.order (.number s (mg r) (-1074+(pl r:Int))) (.number t (mg a) (-1074+(pl a:Int)))=some (compare (sgn s r) (sgn t a)):=by
 show some (compare (Ieee.signed s (mg r) ((-1074+(pl r:Int)) - min (-1074+(pl r:Int)) (-1074+(pl a:Int))).toNat) (Ieee.signed t (mg a) ((-1074+(pl a:Int)) - min (-1074+(pl r:Int)) (-1074+(pl a:Int))).toNat))=_
 have f:((-1074+(pl r:Int)) - min (-1074+(pl r:Int)) (-1074+(pl a:Int))).toNat=pl r - min (pl r) (pl a):=by omega
 have e:((-1074+(pl a:Int)) - min (-1074+(pl r:Int)) (-1074+(pl a:Int))).toNat=pl a - min (pl r) (pl a):=by omega
 rw [f,e]
 congr 1
 have c:(mg r <<< (pl r - min (pl r) (pl a)))*2^min (pl r) (pl a)=V r:=by
  rw [Nat.shiftLeft_eq,Nat.mul_assoc,<- Nat.pow_add,Nat.sub_add_cancel (Nat.min_le_left _ _)];rfl
 have b:(mg a <<< (pl a - min (pl r) (pl a)))*2^min (pl r) (pl a)=V a:=by
  rw [Nat.shiftLeft_eq,Nat.mul_assoc,<- Nat.pow_add,Nat.sub_add_cancel (Nat.min_le_right _ _)];rfl
 have d:0<2^min (pl r) (pl a):=Nat.two_pow_pos _;unfold Ieee.signed sgn;generalize mg r <<< (pl r - min (pl r) (pl a))=A at *
 generalize mg a <<< (pl a - min (pl r) (pl a))=B at *
 generalize 2^min (pl r) (pl a)=P at *
 have j:A<B↔r<a:=by rw [<- cN (r:=r) (s:=a),<- c,<- b];exact (Nat.mul_lt_mul_right d).symm
 have k:B<A↔a<r:=by rw [<- cN (r:=a) (s:=r),<- c,<- b];exact (Nat.mul_lt_mul_right d).symm
 have i:A=0↔r=0:=by
  rw [<- fD (r:=r) (s:=0),bp,<- c,Nat.mul_eq_zero];constructor
  ·exact fun h=>Or.inl h
  ·rintro (h | h)<;>omega
 have g:B=0↔a=0:=by
  rw [<- fD (r:=a) (s:=0),bp,<- b,Nat.mul_eq_zero];constructor
  ·exact fun h=>Or.inl h
  ·rintro (h | h)<;>omega
 clear c b d f e;apply uP<;>cases s<;>cases t<;>simp only [Bool.false_eq_true,if_true,if_false]<;>omega
theorem cb {b:Nat} (h:b<18446744073709551616) (hn:ah b=false):sgn (b / 9223372036854775808 % 2==1) (b % 9223372036854775808)=ae b:=by
 unfold ae;rw [hn];simp only [Bool.false_eq_true,if_false];unfold sgn sgB szI
 by_cases a:9223372036854775808<=b
 ·rw [show (b / 9223372036854775808 % 2==1)=true by simp;omega,show decide ((9223372036854775808:Int)<=(b:Int))=true by simp;omega]
  simp only [if_true];omega
 ·rw [show (b / 9223372036854775808 % 2==1)=false by simp;omega,show decide ((9223372036854775808:Int)<=(b:Int))=false by simp;omega]
  simp only [Bool.false_eq_true,if_false];omega
theorem fj {b:Nat} (h:ah b=false):b % 9223372036854775808<=9218868437227405312:=by
 have h:=of_decide_eq_false h;unfold szI at h;omega
theorem lg {b:Nat} (h:ah b=true):9218868437227405312<b % 9223372036854775808:=by
 have h:=of_decide_eq_true h;unfold szI at h;omega
theorem kC {a b:Nat} (h:a<18446744073709551616) (g:b<18446744073709551616) (e:ah a=false) (f:ah b=false) :
  FloatKind.f64.format.order a b=some (compare (ae a) (ae b)):=by
 show (Ieee.double.read a).order (Ieee.double.read b)=_
 have c:=fj e;have d:=fj f;rw [<- cb h e,<- cb g f];rcases Nat.lt_or_eq_of_le c with c | c<;>rcases Nat.lt_or_eq_of_le d with d | d
 ·rw [ax c,ax d];exact Em _ _ _ _
 ·rw [ax c,aS d,d]
  show some (if (b / 9223372036854775808 % 2==1) then Ordering.gt else Ordering.lt)=_
  congr 1
  generalize a % 9223372036854775808=r at *
  generalize (a / 9223372036854775808 % 2==1)=s;generalize (b / 9223372036854775808 % 2==1)=t
  show _=compareOfLessAndEq (sgn s r) (sgn t 9218868437227405312)
  unfold compareOfLessAndEq sgn;cases s<;>cases t<;>simp only [Bool.false_eq_true,if_true,if_false]
  ·rw [if_pos (by omega)]
  ·rw [if_neg (by omega),if_neg (by omega)]
  ·rw [if_pos (by omega)]
  ·rw [if_neg (by omega),if_neg (by omega)]
 ·rw [aS c,ax d,c]
  show some (if (a / 9223372036854775808 % 2==1) then Ordering.lt else Ordering.gt)=_
  congr 1
  generalize b % 9223372036854775808=r at *
  generalize (a / 9223372036854775808 % 2==1)=s;generalize (b / 9223372036854775808 % 2==1)=t
  show _=compareOfLessAndEq (sgn s 9218868437227405312) (sgn t r)
  unfold compareOfLessAndEq sgn;cases s<;>cases t<;>simp only [Bool.false_eq_true,if_true,if_false]
  ·rw [if_neg (by omega),if_neg (by omega)]
  ·rw [if_neg (by omega),if_neg (by omega)]
  ·rw [if_pos (by omega)]
  ·rw [if_pos (by omega)]
 ·rw [aS c,aS d,c,d]
  show some (compare (Bool.toNat _) (Bool.toNat _))=_
  congr 1
  generalize (a / 9223372036854775808 % 2==1)=s;generalize (b / 9223372036854775808 % 2==1)=t;cases s<;>cases t<;>decide
theorem fE {a b:Nat} (h:ah a=true):FloatKind.f64.format.order a b=none:=by
 show (Ieee.double.read a).order (Ieee.double.read b)=_
 obtain⟨f,e⟩:=lf (lg h);rw [e];rfl
theorem iX {a b:Nat} (h:ah b=true):FloatKind.f64.format.order a b=none:=by
 show (Ieee.double.read a).order (Ieee.double.read b)=_
 obtain⟨f,e⟩:=lf (lg h);rw [e];cases Ieee.double.read a<;>rfl
theorem eU {a b:Nat} (f:U64 a) (e:U64 b) (c:ah a=false) (d:ah b=false):(FloatKind.f64.format.order a b==some .eq)=decide (ae a=ae b):=by
 rw [kC (by have:=f.2;omega) (by have:=e.2;omega) c d,<- pA];rfl
theorem jK {a b:Nat} (f:U64 a) (e:U64 b) (c:ah a=false) (d:ah b=false):(FloatKind.f64.format.order a b==some .lt)=decide (ae a<ae b):=by
 rw [kC (by have:=f.2;omega) (by have:=e.2;omega) c d,<- pw];rfl
theorem Mf {a:Nat} (b:U64 a):(FloatKind.f64.format.order a a==some .eq)=!ah a:=by
 cases h:ah a
 ·rw [eU b b h h];simp
 ·rw [fE h];rfl
end Go.Proofs.YtfdddijdjpijbaaGreat
