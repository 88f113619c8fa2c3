/-  -/
import Derived.Test.YtjjlnmihkadlmaaGreatHaa
import Derived.Laws.FloatArith
namespace Go.Proofs.YtjjlnmihkadlmaaGreat

def mg (r:Nat):Nat:=if r<4503599627370496 then r else 4503599627370496+r % 4503599627370496
def pl (r:Nat):Nat:=r / 4503599627370496 - 1
def V (r:Nat):Nat:=mg r*2^pl r

theorem lh (r:Nat):mg r<9007199254740992:=by unfold mg;split<;>omega
theorem wL {r:Nat} (h:4503599627370496≤r):4503599627370496≤mg r:=by unfold mg;split<;>omega

theorem DD {r s:Nat} (h:r<s):V r<V s:=by
 unfold V
 by_cases hp:pl r=pl s
 ·rw [hp]
  refine Nat.mul_lt_mul_of_pos_right ?_ (Nat.two_pow_pos _)
  unfold pl at hp
  unfold mg
  split<;>split<;>omega
 ·have hlt:pl r<pl s:=by
   have:pl r≤pl s:=by unfold pl;omega
   omega
  have h1:=lh r
  have h2:4503599627370496≤mg s:=wL (by unfold pl at hlt;omega)
  have h3:2^(pl r+1)≤2^pl s:=Nat.pow_le_pow_right (by decide) hlt
  calc mg r*2^pl r<9007199254740992*2^pl r:=Nat.mul_lt_mul_of_pos_right h1 (Nat.two_pow_pos _)
   _=4503599627370496*2^(pl r+1):=by rw [Nat.pow_succ];omega
   _≤4503599627370496*2^pl s:=Nat.mul_le_mul_left _ h3
   _≤mg s*2^pl s:=Nat.mul_le_mul_right _ h2
theorem xP {r s:Nat} (h:r≤s):V r≤V s:=by
 rcases Nat.lt_or_eq_of_le h with h | h
 ·exact Nat.le_of_lt (DD h)
 ·rw [h];exact Nat.le_refl _
theorem cj {r s:Nat}:V r<V s↔r<s:=by
 refine⟨fun h=>?_,DD⟩
 rcases Nat.lt_or_ge r s with h' | h'
 ·exact h'
 ·exact absurd h (Nat.not_lt.2 (xP h'))
theorem dI {r s:Nat}:V r=V s↔r=s:=by
 refine⟨fun h=>?_,fun h=>by rw [h]⟩
 rcases Nat.lt_trichotomy r s with h' | h' | h'
 ·have:=DD h';omega
 ·exact h'
 ·have:=DD h';omega
theorem bu:V 0=0:=by decide

theorem au {b:Nat} (h:b % 9223372036854775808<9218868437227405312) :
  Ieee.double.read b=.number (b / 9223372036854775808 % 2==1) (mg (b % 9223372036854775808)) (-1074+(pl (b % 9223372036854775808):Int)):=by
 show (if b % 9223372036854775808<4503599627370496 then Ieee.Datum.number (b / 9223372036854775808 % 2==1) (b % 9223372036854775808) (-1074) else
  if b % 9223372036854775808<9218868437227405312 then .number (b / 9223372036854775808 % 2==1) (4503599627370496+b % 9223372036854775808 % 4503599627370496) (-1074+((b % 9223372036854775808 / 4503599627370496 - 1:Nat):Int)) else _)=_
 generalize b % 9223372036854775808=r at *
 unfold mg pl
 by_cases h1:r<4503599627370496
 ·rw [if_pos h1,if_pos h1,show r / 4503599627370496 - 1=0 by omega];rfl
 ·rw [if_neg h1,if_pos h,if_neg h1]

theorem aI {b:Nat} (h:b % 9223372036854775808=9218868437227405312):Ieee.double.read b=.infinity (b / 9223372036854775808 % 2==1):=by
 show (if b % 9223372036854775808<4503599627370496 then _ else if b % 9223372036854775808<9218868437227405312 then _ else
  if b % 9223372036854775808=9218868437227405312 then Ieee.Datum.infinity (b / 9223372036854775808 % 2==1) else _)=_
 rw [h];rfl
theorem iS {b:Nat} (h:9218868437227405312<b % 9223372036854775808):∃ f,Ieee.double.read b=.nan (b / 9223372036854775808 % 2==1) f:=by
 refine⟨b % 9223372036854775808 - 9218868437227405312,?_⟩
 show (if b % 9223372036854775808<4503599627370496 then _ else if b % 9223372036854775808<9218868437227405312 then _ else
  if b % 9223372036854775808=9218868437227405312 then _ else Ieee.Datum.nan (b / 9223372036854775808 % 2==1) (b % 9223372036854775808 - 9218868437227405312))=_
 rw [if_neg (by omega),if_neg (by omega),if_neg (by omega)]

theorem pF {x y x' y':Int} (h1:x<y↔x'<y') (h2:x=y↔x'=y'):compare x y=compare x' y':=by
 show compareOfLessAndEq x y=compareOfLessAndEq x' y'
 unfold compareOfLessAndEq
 by_cases a:x<y
 ·rw [if_pos a,if_pos (h1.1 a)]
 ·rw [if_neg a,if_neg (fun h=>a (h1.2 h))]
  by_cases b:x=y
  ·rw [if_pos b,if_pos (h2.1 b)]
  ·rw [if_neg b,if_neg (fun h=>b (h2.2 h))]
theorem li (x y:Int):(compare x y==.lt)=decide (x<y):=by
 show (compareOfLessAndEq x y==.lt)=_
 unfold compareOfLessAndEq
 by_cases a:x<y
 ·simp [a]
 ·by_cases b:x=y<;>simp [a,b]
theorem lj (x y:Int):(compare x y==.eq)=decide (x=y):=by
 show (compareOfLessAndEq x y==.eq)=_
 unfold compareOfLessAndEq
 by_cases a:x<y
 ·have:¬ x=y:=by omega
  simp [a,this]
 ·by_cases b:x=y<;>simp [a,b]

def sgn (s:Bool) (r:Nat):Int:=if s then -(r:Int) else (r:Int)

theorem xQ (s t:Bool) (r r':Nat) :
  Ieee.Datum.order (.number s (mg r) (-1074+(pl r:Int))) (.number t (mg r') (-1074+(pl r':Int)))=some (compare (sgn s r) (sgn t r')):=by
 show some (compare (Ieee.signed s (mg r) ((-1074+(pl r:Int)) - min (-1074+(pl r:Int)) (-1074+(pl r':Int))).toNat) (Ieee.signed t (mg r') ((-1074+(pl r':Int)) - min (-1074+(pl r:Int)) (-1074+(pl r':Int))).toNat))=_
 have e1:((-1074+(pl r:Int)) - min (-1074+(pl r:Int)) (-1074+(pl r':Int))).toNat=pl r - min (pl r) (pl r'):=by omega
 have e2:((-1074+(pl r':Int)) - min (-1074+(pl r:Int)) (-1074+(pl r':Int))).toNat=pl r' - min (pl r) (pl r'):=by omega
 rw [e1,e2]
 congr 1
 have hA:(mg r <<< (pl r - min (pl r) (pl r')))*2^min (pl r) (pl r')=V r:=by
  rw [Nat.shiftLeft_eq,Nat.mul_assoc,← Nat.pow_add,Nat.sub_add_cancel (Nat.min_le_left _ _)];rfl
 have hB:(mg r' <<< (pl r' - min (pl r) (pl r')))*2^min (pl r) (pl r')=V r':=by
  rw [Nat.shiftLeft_eq,Nat.mul_assoc,← Nat.pow_add,Nat.sub_add_cancel (Nat.min_le_right _ _)];rfl
 have hp:0<2^min (pl r) (pl r'):=Nat.two_pow_pos _
 unfold Ieee.signed sgn
 generalize mg r <<< (pl r - min (pl r) (pl r'))=A at *
 generalize mg r' <<< (pl r' - min (pl r) (pl r'))=B at *
 generalize 2^min (pl r) (pl r')=P at *
 have f1:A<B↔r<r':=by rw [← cj (r:=r) (s:=r'),← hA,← hB];exact (Nat.mul_lt_mul_right hp).symm
 have f2:B<A↔r'<r:=by rw [← cj (r:=r') (s:=r),← hA,← hB];exact (Nat.mul_lt_mul_right hp).symm
 have z1:A=0↔r=0:=by
  rw [← dI (r:=r) (s:=0),bu,← hA,Nat.mul_eq_zero];constructor
  ·exact fun h=>Or.inl h
  ·rintro (h | h)<;>omega
 have z2:B=0↔r'=0:=by
  rw [← dI (r:=r') (s:=0),bu,← hB,Nat.mul_eq_zero];constructor
  ·exact fun h=>Or.inl h
  ·rintro (h | h)<;>omega
 clear hA hB hp e1 e2
 apply pF<;>cases s<;>cases t<;>simp only [Bool.false_eq_true,if_true,if_false]<;>omega

theorem bK {b:Nat} (h:b<18446744073709551616) (hn:ag b=false):sgn (b / 9223372036854775808 % 2==1) (b % 9223372036854775808)=ae b:=by
 unfold ae
 rw [hn]
 simp only [Bool.false_eq_true,if_false]
 unfold sgn sgB szI
 by_cases hs:9223372036854775808≤b
 ·rw [show (b / 9223372036854775808 % 2==1)=true by simp;omega,show decide ((9223372036854775808:Int)≤(b:Int))=true by simp;omega]
  simp only [if_true];omega
 ·rw [show (b / 9223372036854775808 % 2==1)=false by simp;omega,show decide ((9223372036854775808:Int)≤(b:Int))=false by simp;omega]
  simp only [Bool.false_eq_true,if_false];omega

theorem dF {b:Nat} (h:ag b=false):b % 9223372036854775808≤9218868437227405312:=by
 have h:=of_decide_eq_false h;unfold szI at h;omega
theorem iT {b:Nat} (h:ag b=true):9218868437227405312<b % 9223372036854775808:=by
 have h:=of_decide_eq_true h;unfold szI at h;omega

theorem fp {a b:Nat} (ha:a<18446744073709551616) (hb:b<18446744073709551616) (hna:ag a=false) (hnb:ag b=false) :
  FloatKind.f64.format.order a b=some (compare (ae a) (ae b)):=by
 show (Ieee.double.read a).order (Ieee.double.read b)=_
 have la:=dF hna
 have lb:=dF hnb
 rw [← bK ha hna,← bK hb hnb]
 rcases Nat.lt_or_eq_of_le la with la | la<;>rcases Nat.lt_or_eq_of_le lb with lb | lb
 ·rw [au la,au lb];exact xQ _ _ _ _
 ·rw [au la,aI lb,lb]
  show some (if (b / 9223372036854775808 % 2==1) then Ordering.gt else Ordering.lt)=_
  congr 1
  generalize a % 9223372036854775808=r at *
  generalize (a / 9223372036854775808 % 2==1)=s
  generalize (b / 9223372036854775808 % 2==1)=t
  show _=compareOfLessAndEq (sgn s r) (sgn t 9218868437227405312)
  unfold compareOfLessAndEq sgn
  cases s<;>cases t<;>simp only [Bool.false_eq_true,if_true,if_false]
  ·rw [if_pos (by omega)]
  ·rw [if_neg (by omega),if_neg (by omega)]
  ·rw [if_pos (by omega)]
  ·rw [if_neg (by omega),if_neg (by omega)]
 ·rw [aI la,au lb,la]
  show some (if (a / 9223372036854775808 % 2==1) then Ordering.lt else Ordering.gt)=_
  congr 1
  generalize b % 9223372036854775808=r at *
  generalize (a / 9223372036854775808 % 2==1)=s
  generalize (b / 9223372036854775808 % 2==1)=t
  show _=compareOfLessAndEq (sgn s 9218868437227405312) (sgn t r)
  unfold compareOfLessAndEq sgn
  cases s<;>cases t<;>simp only [Bool.false_eq_true,if_true,if_false]
  ·rw [if_neg (by omega),if_neg (by omega)]
  ·rw [if_neg (by omega),if_neg (by omega)]
  ·rw [if_pos (by omega)]
  ·rw [if_pos (by omega)]
 ·rw [aI la,aI lb,la,lb]
  show some (compare (Bool.toNat _) (Bool.toNat _))=_
  congr 1
  generalize (a / 9223372036854775808 % 2==1)=s
  generalize (b / 9223372036854775808 % 2==1)=t
  cases s<;>cases t<;>decide
theorem dJ {a b:Nat} (h:ag a=true):FloatKind.f64.format.order a b=none:=by
 show (Ieee.double.read a).order (Ieee.double.read b)=_
 obtain⟨f,e⟩:=iS (iT h)
 rw [e];rfl
theorem fS {a b:Nat} (h:ag b=true):FloatKind.f64.format.order a b=none:=by
 show (Ieee.double.read a).order (Ieee.double.read b)=_
 obtain⟨f,e⟩:=iS (iT h)
 rw [e];cases Ieee.double.read a<;>rfl

theorem eg {a b:Nat} (ha:U64 a) (hb:U64 b) (hna:ag a=false) (hnb:ag b=false):(FloatKind.f64.format.order a b==some .eq)=decide (ae a=ae b):=by
 rw [fp (by have:=ha.2;omega) (by have:=hb.2;omega) hna hnb,← lj];rfl
theorem iU {a b:Nat} (ha:U64 a) (hb:U64 b) (hna:ag a=false) (hnb:ag b=false):(FloatKind.f64.format.order a b==some .lt)=decide (ae a<ae b):=by
 rw [fp (by have:=ha.2;omega) (by have:=hb.2;omega) hna hnb,← li];rfl
theorem DE {a:Nat} (ha:U64 a):(FloatKind.f64.format.order a a==some .eq)=!ag a:=by
 cases h:ag a
 ·rw [eg ha ha h h];simp
 ·rw [dJ h];rfl
end Go.Proofs.YtjjlnmihkadlmaaGreat
