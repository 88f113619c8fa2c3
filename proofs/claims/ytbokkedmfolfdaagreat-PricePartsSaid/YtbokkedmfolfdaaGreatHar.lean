/-  -/
import Derived.Test.YtbokkedmfolfdaaGreatHap
import Derived.Deep.LoopGhost
import Derived.Test.YtbokkedmfolfdaaGreatHaj
import Derived.Test.YtbokkedmfolfdaaGreatHak
import Derived.Deep.RegionHeld3
import Derived.Test.YtbokkedmfolfdaaGreatHal
namespace Go.Proofs.YtbokkedmfolfdaaGreat
open Go.RowKit

end Go.Proofs.YtbokkedmfolfdaaGreat
namespace Go.Proofs.YtbokkedmfolfdaaGreat
open Go.RowKit

end Go.Proofs.YtbokkedmfolfdaaGreat
namespace Go.Proofs.YtbokkedmfolfdaaGreat
open Go.RowKit

structure OfR (x:Nat) (neg:Bool) (N:Nat) (e:Int):Prop where
 lt:N<9007199254740992
 lo: -1074≤e
 hi:e≤971
 val:N*2^(e+1074).toNat=aV x
 sgn:N≠0→neg=sB x
 mag:N≠0→N=mg (x % 9223372036854775808)∧e= -1074+(pl (x % 9223372036854775808):Int)
theorem vU {x:Nat} (h:x<18446744073709551616):sgB (x:Int)=sB x:=by
 unfold sgB sB
 rcases (show x / 9223372036854775808=0∨x / 9223372036854775808=1 by omega) with e | e
 ·rw [e];show _=false;rw [decide_eq_false_iff_not];omega
 ·rw [e];show _=true;rw [decide_eq_true_eq];omega
theorem kG (x:Nat):szI (x:Int)=((x % 9223372036854775808:Nat):Int):=by unfold szI;omega

end Go.Proofs.YtbokkedmfolfdaaGreat
namespace Go.Proofs.YtbokkedmfolfdaaGreat
open Go.RowKit

def cn (o:Option Nat):Nat:=o.getD 9221120237041090561
theorem kH:cn none=9221120237041090561:=rfl
theorem ax (r:Nat):cn (some r)=r:=rfl
theorem vX (neg:Bool) (N:Nat):(sg neg N).natAbs=N:=by unfold sg;cases neg<;>simp
theorem bZ (s:Bool):Ieee.double.write (.infinity s)=wrd s 9218868437227405312:=by cases s<;>decide+kernel
theorem cX {r:Nat} (h:r≠0):mg r≠0:=by unfold mg;split<;>omega
theorem lI {x y:Nat} (hx:x % 9223372036854775808=9218868437227405312) (hy:ab y) (h0:y % 9223372036854775808≠0):floatBits .mul .f64 x y=some (wrd (sB x^^sB y) 9218868437227405312)∧floatBits .mul .f64 y x=some (wrd (sB y^^sB x) 9218868437227405312):=by
 have hm:=cX h0
 constructor
 ·show ((Ieee.double.read x).product (Ieee.double.read y)).map Ieee.double.write=_
  rw [aG hx,aj hy]
  show (if mg (y % 9223372036854775808)=0 then none else some (Ieee.Datum.infinity (_^^_))).map Ieee.double.write=_
  rw [if_neg hm]
  show some (Ieee.double.write (.infinity _))=_
  rw [bZ];rfl
 ·show ((Ieee.double.read y).product (Ieee.double.read x)).map Ieee.double.write=_
  rw [aG hx,aj hy]
  show (if mg (y % 9223372036854775808)=0 then none else some (Ieee.Datum.infinity (_^^_))).map Ieee.double.write=_
  rw [if_neg hm]
  show some (Ieee.double.write (.infinity _))=_
  rw [bZ,Bool.xor_comm];rfl
end Go.Proofs.YtbokkedmfolfdaaGreat
namespace Go.Proofs.YtbokkedmfolfdaaGreat
open Go.RowKit

theorem lJ (neg:Bool):sg neg 0=0:=by cases neg<;>rfl
theorem kI {x y:Nat} (hx:x % 9223372036854775808=9218868437227405312) (hy:ab y) (hx64:x<18446744073709551616):floatBits .add .f64 x y=some x∧floatBits .add .f64 y x=some x:=by
 have hw:wrd (sB x) 9218868437227405312=x:=by
  unfold wrd sB
  rcases (show x / 9223372036854775808=0∨x / 9223372036854775808=1 by omega) with e | e
  ·rw [e];simp;omega
  ·rw [e];simp;omega
 constructor
 ·show ((Ieee.double.read x).sum (Ieee.double.read y)).map Ieee.double.write=_
  rw [aG hx,aj hy]
  show some (Ieee.double.write (.infinity _))=_
  rw [bZ];exact congrArg some hw
 ·show ((Ieee.double.read y).sum (Ieee.double.read x)).map Ieee.double.write=_
  rw [aG hx,aj hy]
  show some (Ieee.double.write (.infinity _))=_
  rw [bZ];exact congrArg some hw
theorem sT {x y:Nat} (hx:x % 9223372036854775808=9218868437227405312) (hy:y % 9223372036854775808=9218868437227405312) (hx64:x<18446744073709551616) (hy64:y<18446744073709551616):floatBits .add .f64 x y=if x=y then some x else none:=by
 show ((Ieee.double.read x).sum (Ieee.double.read y)).map Ieee.double.write=_
 rw [aG hx,aG hy]
 rcases (show x=9218868437227405312∨x=18442240474082181120 by omega) with e | e<;>rcases (show y=9218868437227405312∨y=18442240474082181120 by omega) with e' | e'<;>subst e<;>subst e'<;>decide+kernel

end Go.Proofs.YtbokkedmfolfdaaGreat
namespace Go.Proofs.YtbokkedmfolfdaaGreat
open Go.RowKit

theorem yB {op:BinOp} (ho:op=.add∨op=.sub∨op=.mul∨op=.quo) (x y:Nat):cn (floatBits op .f64 x y)<18446744073709551616:=by
 cases h:floatBits op .f64 x y with
 | none=>decide
 | some r=>exact ic ho h
theorem sV:af ((9221120237041090561:Nat):Int)=true:=by decide
theorem xo (o:Option Nat):Ag o (cn o):=by
 cases o with
 | none=>exact⟨sV,by decide⟩
 | some r=>rfl
end Go.Proofs.YtbokkedmfolfdaaGreat
namespace Go.Proofs.YtbokkedmfolfdaaGreat
open Go.RowKit

theorem kK {c:Nat} (h:c<9223372036854775808):c^^^9223372036854775808=9223372036854775808+c:=by
 rw [show (9223372036854775808:Nat)=2^63 from rfl] at *
 apply Nat.eq_of_testBit_eq
 intro i
 rw [Nat.testBit_xor,Nat.testBit_two_pow]
 by_cases h1:i=63
 ·subst h1
  rw [Nat.testBit_two_pow_add_eq]
  simp
 ·by_cases h2:i<63
  ·have e:decide (63=i)=false:=by rw [decide_eq_false_iff_not];omega
   rw [Nat.testBit_two_pow_add_gt h2,e,Bool.xor_false]
  ·have h3:c.testBit i=false:=Nat.testBit_lt_two_pow (Nat.lt_of_lt_of_le h (Nat.pow_le_pow_right (by decide) (by omega)))
   have h4:(2^63+c).testBit i=false:=Nat.testBit_lt_two_pow (Nat.lt_of_lt_of_le (show 2^63+c<2^64 by omega) (Nat.pow_le_pow_right (by decide) (by omega)))
   have e:decide (63=i)=false:=by rw [decide_eq_false_iff_not];omega
   rw [h3,h4,e];rfl
def flipN (x:Nat):Nat:=if x<9223372036854775808 then 9223372036854775808+x else x - 9223372036854775808
theorem qv {b:Nat} (h:b<18446744073709551616):b^^^9223372036854775808=flipN b:=by
 unfold flipN
 by_cases h1:b<9223372036854775808
 ·rw [if_pos h1,kK h1]
 ·rw [if_neg h1]
  obtain⟨c,rfl⟩:∃ c,b=9223372036854775808+c:=⟨b - 9223372036854775808,by omega⟩
  rw [← kK (c:=c) (by omega),Nat.xor_assoc,Nat.xor_self,Nat.xor_zero]
  have:=kK (c:=c) (by omega)
  omega
theorem cY {x:Nat} (h:x<18446744073709551616):flipN x<18446744073709551616∧flipN x % 9223372036854775808=x % 9223372036854775808∧(flipN x / 9223372036854775808 % 2==1)=!(x / 9223372036854775808 % 2==1):=by
 unfold flipN
 by_cases h1:x<9223372036854775808
 ·rw [if_pos h1]
  refine⟨by omega,by omega,?_⟩
  rw [show (9223372036854775808+x) / 9223372036854775808=1 by omega,show x / 9223372036854775808=0 by omega];rfl
 ·rw [if_neg h1]
  refine⟨by omega,by omega,?_⟩
  rw [show (x - 9223372036854775808) / 9223372036854775808=0 by omega,show x / 9223372036854775808=1 by omega];rfl
theorem sW {x y:Nat} (h:y<18446744073709551616) (hn:af (y:Int)=false):floatBits .add .f64 x (flipN y)=floatBits .sub .f64 x y:=by
 obtain⟨_,h2,h3⟩:=cY h
 have hl:=bX hn
 have e:Ieee.double.read (flipN y)=(Ieee.double.read y).opposite:=by
  by_cases hy:y % 9223372036854775808<9218868437227405312
  ·rw [aj (b:=flipN y) (by rw [h2];exact hy),aj hy,h2,h3];rfl
  ·rw [aG (b:=flipN y) (by rw [h2];omega),aG (b:=y) (by omega),h3];rfl
 show ((Ieee.double.read x).sum (Ieee.double.read (flipN y))).map Ieee.double.write=((Ieee.double.read x).sum (Ieee.double.read y).opposite).map Ieee.double.write
 rw [e]

end Go.Proofs.YtbokkedmfolfdaaGreat
namespace Go.Proofs.YtbokkedmfolfdaaGreat

theorem eJ {M s:Nat} {p:Int} (h0:M≠0) (h:s+54≤M.log2):ag (bf M s false) (s+p)=ag M p:=by
 obtain⟨h1,_⟩:=bN false (show s≤M.log2 by omega) h0
 have hL:ah (bf M s false) (s+p)=ah M p:=by
  unfold ah;rw [h1];congr 1;omega
 have hL2:(s:Int)+p+2≤ah M p:=by unfold ah;omega
 unfold ag
 rw [hL]
 obtain⟨d,hd⟩:∃ d:Nat,ah M p=s+p+d:=⟨(ah M p - (s+p)).toNat,by omega⟩
 have e1:((s:Int)+p - ah M p).toNat=0:=by omega
 have e2:(p - ah M p).toNat=0:=by omega
 have e3:(ah M p - (s+p)).toNat=d:=by omega
 have e4:(ah M p - p).toNat=d+s:=by omega
 rw [e1,e2,e3,e4,Nat.pow_zero,Nat.mul_one,Nat.mul_one]
 have hs:bf M s false=(if M % 2^s=0 then M / 2^s else (if M / 2^s % 2=1 then M / 2^s else M / 2^s+1)):=by unfold bf;simp only [and_true]
 rw [hs,gX (by omega)]
def aK (X Y k:Nat):Nat:=2*(X*2^k / Y)+(if X*2^k % Y=0 then 0 else 1)
theorem sX {q e T:Nat} {t:Nat} (hT:T=2^t) (he:e<2*T):bf (2*q*T+e) t false=2*q+(if e=0 then 0 else 1):=by
 have hp:0<T:=by rw [hT];exact Nat.two_pow_pos t
 unfold bf
 rw [← hT]
 have hd:(2*q*T+e) / T=2*q+e / T:=by rw [Nat.add_comm,Nat.add_mul_div_right _ _ hp,Nat.add_comm]
 have hm:(2*q*T+e) % T=e % T:=by rw [Nat.add_comm,Nat.add_mul_mod_self_right]
 rw [hd,hm]
 by_cases h0:e=0
 ·rw [h0,Nat.zero_mod,Nat.zero_div,if_pos ⟨rfl,rfl⟩,if_pos rfl]
 ·rw [if_neg h0]
  by_cases h1:e<T
  ·rw [Nat.mod_eq_of_lt h1,Nat.div_eq_of_lt h1,if_neg (fun h=>h0 h.1),if_neg (by omega)]
  ·have h2:e / T=1:=by
    have:=Nat.div_lt_iff_lt_mul hp (x:=e) (y:=2)
    have h3:e / T<2:=this.2 he
    have h4:1≤e / T:=(Nat.one_le_div_iff hp).2 (by omega)
    omega
   rw [h2]
   by_cases h3:e % T=0∧(false:Bool)=false
   ·rw [if_pos h3]
   ·rw [if_neg h3,if_pos (by omega)]
theorem qw {X Y:Nat} (k t:Nat) (hY:0<Y):bf (aK X Y (k+t)) t false=aK X Y k:=by
 obtain⟨T,hT⟩:∃ T,T=2^t:=⟨_,rfl⟩
 have hp:0<T:=by rw [hT];exact Nat.two_pow_pos t
 unfold aK
 rw [Nat.pow_add,← Nat.mul_assoc,← hT]
 generalize X*2^k=A
 have hA:=Nat.div_add_mod A Y
 have hr:A % Y<Y:=Nat.mod_lt _ hY
 generalize A / Y=q at *
 generalize A % Y=r at *
 have hAT:A*T=r*T+Y*(q*T):=by rw [← hA,Nat.add_mul,Nat.mul_assoc,Nat.add_comm]
 have hd:A*T / Y=q*T+r*T / Y:=by rw [hAT,Nat.add_mul_div_left _ _ hY,Nat.add_comm]
 have hm:A*T % Y=r*T % Y:=by rw [hAT,Nat.add_mul_mod_self_left]
 rw [hd,hm]
 have hc:r*T / Y<T:=by rw [Nat.div_lt_iff_lt_mul hY,Nat.mul_comm T];exact Nat.mul_lt_mul_of_pos_right hr hp
 have e1:=Nat.div_add_mod (r*T) Y
 have h5:r=0↔r*T=0:=by
  constructor
  ·intro h;rw [h,Nat.zero_mul]
  ·intro h;rcases Nat.mul_eq_zero.1 h with h | h<;>omega
 have e2:2*(q*T+r*T / Y)+(if r*T % Y=0 then 0 else 1)=2*q*T+(2*(r*T / Y)+(if r*T % Y=0 then 0 else 1)):=by rw [Nat.mul_add,← Nat.mul_assoc,Nat.add_assoc]
 rw [e2]
 generalize r*T / Y=c at *
 generalize r*T % Y=s at *
 generalize r*T=rt at *
 rw [sX hT (by split<;>omega)]
 congr 1
 by_cases h0:r=0
 ·have h6:rt=0:=h5.1 h0
  have h7:s=0:=by omega
  have h8:c=0:=by
   by_cases hcc:c=0
   ·exact hcc
   ·have:=Nat.mul_pos hY (show 0<c by omega);omega
  rw [if_pos h0,if_pos (by rw [h7,h8];rfl)]
 ·have h6:rt≠0:=fun h=>h0 (h5.2 h)
  rw [if_neg h0,if_neg]
  intro h
  by_cases hs:s=0
  ·rw [if_pos hs] at h
   have hc0:c=0:=by omega
   rw [hc0,Nat.mul_zero] at e1;omega
  ·rw [if_neg hs] at h;omega
theorem sY {X Y k1 k2:Nat} {p:Int} (hY:0<Y) (hk:k1≤k2) (hb:54≤(aK X Y k1).log2):ag (aK X Y k1) (p - k1)=ag (aK X Y k2) (p - k2):=by
 obtain⟨t,rfl⟩:∃ t,k2=k1+t:=⟨k2 - k1,by omega⟩
 have hs:=qw (X:=X) k1 t hY
 obtain⟨M,hM⟩:∃ M,aK X Y (k1+t)=M:=⟨_,rfl⟩
 rw [hM] at hs ⊢
 have hq0:aK X Y k1≠0:=by intro h;rw [h] at hb;exact absurd hb (by decide)
 have h1:=Nat.log2_self_le hq0
 have h2:(2:Nat)^54≤2^(aK X Y k1).log2:=Nat.pow_le_pow_right (by decide) hb
 have h3:bf M t false≤M / 2^t+1:=by unfold bf;split;omega;split<;>omega
 have h4:1≤M / 2^t:=by rw [hs] at h3;omega
 have h5:2^t≤M:=(Nat.one_le_div_iff (Nat.two_pow_pos _)).1 h4
 have hM0:M≠0:=by have:=Nat.two_pow_pos t;omega
 have h6:t≤M.log2:=(Nat.le_log2 hM0).2 h5
 have h7:=(bN false h6 hM0).1
 rw [hs] at h7
 have:=eJ (M:=M) (s:=t) (p:=p - ((k1+t:Nat):Int)) hM0 (by omega)
 rw [hs,show (t:Int)+(p - ((k1+t:Nat):Int))=p - k1 by omega] at this
 exact this
theorem sZ {X Y k:Nat} (hX:X≠0) (hY:Y≠0) (hk:54+Y.log2≤X.log2+k):9007199254740992≤X*2^k / Y∧54≤(aK X Y k).log2:=by
 have h1:=Nat.log2_self_le hX
 have h2:Y<2^(Y.log2+1):=Nat.lt_log2_self
 have h3:9007199254740992≤X*2^k / Y:=by
  rw [Nat.le_div_iff_mul_le (by omega)]
  refine Nat.le_trans (Nat.mul_le_mul_left _ (Nat.le_of_lt h2)) ?_
  refine Nat.le_trans ?_ (Nat.mul_le_mul_right _ h1)
  rw [show (9007199254740992:Nat)=2^53 from rfl,← Nat.pow_add,← Nat.pow_add]
  exact Nat.pow_le_pow_right (by decide) (by omega)
 refine⟨h3,?_⟩
 have h4:2^54≤aK X Y k:=by unfold aK;omega
 exact (Nat.le_log2 (by have:=Nat.two_pow_pos 54;omega)).2 h4
end Go.Proofs.YtbokkedmfolfdaaGreat
namespace Go.Proofs.YtbokkedmfolfdaaGreat
open Go.RowKit

end Go.Proofs.YtbokkedmfolfdaaGreat
namespace Go.Proofs.YtbokkedmfolfdaaGreat
open Go.RowKit

end Go.Proofs.YtbokkedmfolfdaaGreat
namespace Go.Proofs.YtbokkedmfolfdaaGreat
open Go.RowKit

theorem vY {x y:Nat} (hx:x % 9223372036854775808=9218868437227405312) (hy:ab y):floatBits .quo .f64 x y=some (wrd (sB x^^sB y) 9218868437227405312):=by
 show ((Ieee.double.read x).quotient 54 (Ieee.double.read y)).map Ieee.double.write=_
 rw [aG hx,aj hy]
 show some (Ieee.double.write (.infinity _))=_
 rw [bZ];rfl
theorem lL {x y:Nat} (hx:ab x) (h0:x % 9223372036854775808≠0) (hy:y % 9223372036854775808=0):floatBits .quo .f64 x y=some (wrd (sB x^^sB y) 9218868437227405312):=by
 have hm:=cX h0
 show ((Ieee.double.read x).quotient 54 (Ieee.double.read y)).map Ieee.double.write=_
 rw [aj hx,aj (b:=y) (by omega),hy,show mg 0=0 by decide]
 show (if mg (x % 9223372036854775808)=0 then none else some (Ieee.Datum.infinity (_^^_))).map Ieee.double.write=_
 rw [if_neg hm]
 show some (Ieee.double.write (.infinity _))=_
 rw [bZ];rfl
theorem nH (s:Bool) (i:Int):Ieee.double.write (.number s 0 i)=wrd s 0:=by
 show Ieee.double.nearest s 0 i=_
 rw [aY,cU]
theorem nI {x y:Nat} (hx:ab x) (hy:y % 9223372036854775808=9218868437227405312):floatBits .quo .f64 x y=some (wrd (sB x^^sB y) 0):=by
 show ((Ieee.double.read x).quotient 54 (Ieee.double.read y)).map Ieee.double.write=_
 rw [aj hx,aG hy]
 show some (Ieee.double.write (.number _ 0 0))=_
 rw [nH];rfl
theorem jJ (s t:Bool) (m n:Nat) (i j:Int) (hn:n≠0):((Ieee.Datum.number s m i).quotient 54 (.number t n j)).map Ieee.double.write=some (Ieee.double.nearest (s^^t) (2*(m*2^(54+n.log2 - m.log2) / n)+(m*2^(54+n.log2 - m.log2) % n !=0).toNat) (i - j - ((54+n.log2 - m.log2:Nat):Int) - 1)):=by
 show (if n=0 then _ else some (Ieee.Datum.number (s^^t) (2*((m <<< (54+n.log2 - m.log2)) / n)+((m <<< (54+n.log2 - m.log2)) % n !=0).toNat) (i - j - ((54+n.log2 - m.log2:Nat):Int) - 1))).map Ieee.double.write=_
 rw [if_neg hn,Nat.shiftLeft_eq]
 rfl
theorem tc {x y:Nat} (hx:x % 9223372036854775808=0) (hy:ab y) (h0:y % 9223372036854775808≠0):floatBits .quo .f64 x y=some (wrd (sB x^^sB y) 0):=by
 have hm:=cX h0
 show ((Ieee.double.read x).quotient 54 (Ieee.double.read y)).map Ieee.double.write=_
 rw [aj (b:=x) (by omega),aj hy,hx,jJ _ _ _ _ _ _ hm,show mg 0=0 by decide,Nat.zero_mul,Nat.zero_div,Nat.zero_mod]
 show some (Ieee.double.nearest _ 0 _)=_
 rw [aY,cU];rfl
theorem vZ (X Y k:Nat):2*(X*2^k / Y)+(X*2^k % Y !=0).toNat=aK X Y k:=by
 unfold aK
 congr 1
 by_cases h:X*2^k % Y=0
 ·rw [if_pos h,h];rfl
 ·rw [if_neg h,show (X*2^k % Y !=0)=true by simpa using h];rfl
theorem kL {x y:Nat} (hx:ab x) (hy:ab y) (h0:x % 9223372036854775808≠0) (h1:y % 9223372036854775808≠0) {X Y:Nat} {ex ey:Int} (hX:X=mg (x % 9223372036854775808)) (hY:Y=mg (y % 9223372036854775808)) (hex:ex= -1074+(pl (x % 9223372036854775808):Int)) (hey:ey= -1074+(pl (y % 9223372036854775808):Int)) {k:Nat} (hk:54+Y.log2 - X.log2≤k) :
  floatBits .quo .f64 x y=some (wrd (sB x^^sB y) (ag (aK X Y k) (ex - ey - 1 - k))):=by
 have hX0:X≠0:=by rw [hX];exact cX h0
 have hY0:Y≠0:=by rw [hY];exact cX h1
 show ((Ieee.double.read x).quotient 54 (Ieee.double.read y)).map Ieee.double.write=_
 rw [aj hx,aj hy,← hX,← hY,← hex,← hey,jJ _ _ _ _ _ _ hY0,vZ]
 have hq:=sZ hX0 hY0 (k:=54+Y.log2 - X.log2) (by omega)
 have hq0:aK X Y (54+Y.log2 - X.log2)≠0:=by intro h;rw [h] at hq;exact absurd hq.2 (by decide)
 rw [aS _ hq0,cU]
 have:=sY (X:=X) (Y:=Y) (p:=ex - ey - 1) (by omega) hk hq.2
 rw [← this,show ex - ey - ((54+Y.log2 - X.log2:Nat):Int) - 1=ex - ey - 1 - ((54+Y.log2 - X.log2:Nat):Int) by omega]
 rfl

theorem wa {r:Nat} (h:V r=0):r=0:=by
 have:=dm (r:=r) (s:=0)
 rw [aR] at this
 exact this.1 h
end Go.Proofs.YtbokkedmfolfdaaGreat
namespace Go.Proofs.YtbokkedmfolfdaaGreat
open Go.RowKit

def dZ (x y:Nat):Nat:=cn (floatBits .add .f64 x y)
def id (x y:Nat):Nat:=cn (floatBits .sub .f64 x y)
def jp (x y:Nat):Nat:=cn (floatBits .mul .f64 x y)
def bJ (x y:Nat):Nat:=cn (floatBits .quo .f64 x y)
theorem aJ {x:Nat} (h:x<18446744073709551616):U64 (x:Nat):=⟨by omega,by omega⟩
theorem jK {n:Int} (h0: -9007199254740992≤n) (h1:n≤9007199254740992):fi n<18446744073709551616:=(gZ rfl h0 h1).2.2.2
def aL (xs:List Int) (ys:List Nat) (k:Nat):Nat:=bJ (id (ys.getD (k+1) 0) (ys.getD k 0)) (fi (xs.getD (k+1) 0 - xs.getD k 0))
end Go.Proofs.YtbokkedmfolfdaaGreat
namespace Go.Proofs.YtbokkedmfolfdaaGreat
open Go.RowKit

end Go.Proofs.YtbokkedmfolfdaaGreat
namespace Go.Proofs.YtbokkedmfolfdaaGreat
open Go.RowKit

def overG (N:Int) (d:Nat):Nat:=if N=0 then 0 else wrd (decide (N<0)) (ag (aK N.natAbs d 0) (-2149))
def cE (N:Int) (d:Nat):Int:=if N=0 then 0 else if N<0 then -(ag (aK N.natAbs d 0) (-2149):Int) else (ag (aK N.natAbs d 0) (-2149):Int)
theorem ip (M:Nat) (p:Int):ag M p≤9218868437227405312:=by
 rw [dW];omega
theorem qQ (s:Bool) {r:Nat} (h:r≤9218868437227405312):U64 (wrd s r:Nat)∧af (wrd s r:Nat)=false∧aa (wrd s r:Nat)=if s then -(r:Int) else (r:Int):=by
 have hn:af (wrd s r:Nat)=false:=by
  unfold af szI wrd
  rw [decide_eq_false_iff_not]
  cases s<;>simp<;>omega
 refine⟨by unfold U64 wrd;cases s<;>simp<;>omega,hn,?_⟩
 unfold aa
 rw [hn,if_neg (by decide)]
 unfold sgB szI wrd
 cases s
 ·have:¬ (9223372036854775808:Int)≤(r:Int):=by omega
  simp [this]
  omega
 ·simp
  omega
theorem bu (N:Int) (d:Nat):U64 (overG N d:Nat)∧af (overG N d:Nat)=false∧aa (overG N d:Nat)=cE N d:=by
 unfold overG cE
 by_cases h0:N=0
 ·rw [if_pos h0,if_pos h0]
  exact⟨by unfold U64;decide,by decide,by decide⟩
 ·rw [if_neg h0,if_neg h0]
  obtain⟨a,b,c⟩:=qQ (decide (N<0)) (ip (aK N.natAbs d 0) (-2149))
  refine⟨a,b,?_⟩
  rw [c]
  by_cases hn:N<0<;>simp [hn]
theorem iq {X X' Y k:Nat} (h:X≤X'):aK X Y k≤aK X' Y k:=by
 have h1:X*2^k≤X'*2^k:=Nat.mul_le_mul_right _ h
 unfold aK
 generalize X*2^k=A at *
 generalize X'*2^k=B at *
 have h2:A / Y≤B / Y:=Nat.div_le_div_right h1
 have ea:=Nat.div_add_mod A Y
 have eb:=Nat.div_add_mod B Y
 by_cases hq:A / Y=B / Y
 ·rw [hq] at ea ⊢
  have:A % Y≤B % Y:=by omega
  split<;>split<;>omega
 ·split<;>split<;>omega
theorem jO {N N':Int} (d:Nat) (h:N≤N'):cE N d≤cE N' d:=by
 unfold cE
 by_cases h1:N'<0
 ·have:=aU (-2149) (iq (Y:=d) (k:=0) (show N'.natAbs≤N.natAbs by omega))
  rw [if_neg (by omega),if_pos (by omega),if_neg (by omega),if_pos h1]
  omega
 ·by_cases h2:0<N
  ·have:=aU (-2149) (iq (Y:=d) (k:=0) (show N.natAbs≤N'.natAbs by omega))
   rw [if_neg (by omega),if_neg (by omega),if_neg (by omega),if_neg (by omega)]
   omega
  ·(repeat' split)<;>omega
theorem tx (N:Int) (d:Nat):cE (-N) d= -cE N d:=by
 unfold cE
 by_cases h0:N=0
 ·rw [if_pos h0,if_pos (by omega)];rfl
 ·rw [if_neg h0,if_neg (by omega),Int.natAbs_neg]
  by_cases hn:N<0
  ·rw [if_pos hn,if_neg (by omega)];omega
  ·rw [if_neg hn,if_pos (by omega)]
theorem po {r d K:Nat} (hK:K=1074) (hr:r<9218868437227405312) (hd:0<d):cE (((V r*2^K*d:Nat)):Int) d=r:=by
 unfold cE
 by_cases h0:V r*2^K*d=0
 ·rw [h0,if_pos (show ((0:Nat):Int)=0 from rfl)]
  have h1:V r=0:=by
   have hp:=Nat.two_pow_pos K
   rcases Nat.mul_eq_zero.1 h0 with c | c
   ·rcases Nat.mul_eq_zero.1 c with c | c<;>omega
   ·omega
  have:V r=V 0:=by rw [h1,aR]
  rw [dm] at this
  rw [this];rfl
 ·rw [if_neg (by omega),if_neg (by omega),Int.natAbs_natCast]
  have e:aK (V r*2^K*d) d 0=V r*2^(K+1):=by
   unfold aK
   rw [Nat.pow_zero,Nat.mul_one,Nat.mul_div_cancel _ hd,Nat.mul_mod_left,if_pos rfl,Nat.pow_succ,Nat.add_zero]
   generalize V r=a
   generalize 2^K=b
   rw [Nat.mul_comm 2,Nat.mul_assoc]
  rw [e]
  have:=kE hr (K+1)
  rw [show (-1074:Int) - ((K+1:Nat):Int)= -2149 by omega] at this
  rw [this]
def uI (K:Nat) (y:Nat):Int:=vI y*((2^K:Nat):Int)
theorem vI_rank {y:Nat} (h64:y<18446744073709551616) (hy:ab y):(0≤aa (y:Nat)∧vI y=(V (y % 9223372036854775808):Int)∧aa (y:Nat)=((y % 9223372036854775808:Nat):Int))∨(aa (y:Nat)≤0∧vI y= -(V (y % 9223372036854775808):Int)∧aa (y:Nat)= -((y % 9223372036854775808:Nat):Int)):=by
 unfold ab at hy
 have hn:af (y:Nat)=false:=by unfold af szI;rw [decide_eq_false_iff_not];omega
 unfold aa vI
 rw [hn,if_neg (by decide)]
 unfold sgB szI
 by_cases hs:y<9223372036854775808
 ·left
  have h1:¬ (9223372036854775808:Int)≤(y:Int):=by omega
  have h2:y / 9223372036854775808 % 2=0:=by omega
  rw [h2]
  simp only [h1,decide_false,Bool.false_eq_true,if_false,show ((0:Nat)==1)=false from rfl]
  exact⟨by omega,trivial,by omega⟩
 ·right
  have h1:(9223372036854775808:Int)≤(y:Int):=by omega
  have h2:y / 9223372036854775808 % 2=1:=by omega
  rw [h2]
  simp only [h1,decide_true,if_true,beq_self_eq_true]
  exact⟨by omega,trivial,by omega⟩
theorem lU {y d K:Nat} (hK:K=1074) (h64:y<18446744073709551616) (hy:ab y) (hd:0<d):cE (uI K y*(d:Int)) d=aa (y:Nat):=by
 unfold ab at hy
 rcases vI_rank h64 hy with⟨_,hv,hr⟩| ⟨_,hv,hr⟩
 ·unfold uI
  rw [hv,hr,← po (r:=y % 9223372036854775808) hK (by omega) hd]
  simp only [Int.natCast_mul]
 ·unfold uI
  rw [hv,hr,← po (r:=y % 9223372036854775808) hK (by omega) hd,Int.neg_mul,Int.neg_mul,tx]
  simp only [Int.natCast_mul]
theorem pq {y d K:Nat} {N:Int} (hK:K=1074) (h64:y<18446744073709551616) (hy:ab y) (hd:0<d) (h:uI K y*(d:Int)≤N):aa (y:Nat)≤cE N d:=by
 rw [← lU hK h64 hy hd];exact jO d h
theorem pr {y d K:Nat} {N:Int} (hK:K=1074) (h64:y<18446744073709551616) (hy:ab y) (hd:0<d) (h:N≤uI K y*(d:Int)):cE N d≤aa (y:Nat):=by
 rw [← lU hK h64 hy hd];exact jO d h
theorem gj {x y:Nat} (K:Nat) (hx:x<18446744073709551616) (hxn:ab x) (hy:y<18446744073709551616) (hyn:ab y) (h:aa (x:Nat)≤aa (y:Nat)):uI K x≤uI K y:=by
 have hp:(0:Int)≤((2^K:Nat):Int):=Int.natCast_nonneg _
 unfold uI
 refine Int.mul_le_mul_of_nonneg_right ?_ hp
 rcases vI_rank hx hxn with⟨a1,a2,a3⟩| ⟨a1,a2,a3⟩ <;>rcases vI_rank hy hyn with⟨b1,b2,b3⟩| ⟨b1,b2,b3⟩
 ·rw [a2,b2];have:=qh (r:=x % 9223372036854775808) (s:=y % 9223372036854775808) (by omega);omega
 ·rw [a2,b2]
  have e1:x % 9223372036854775808=0:=by omega
  have e2:y % 9223372036854775808=0:=by omega
  rw [e1,e2,aR];omega
 ·rw [a2,b2];omega
 ·rw [a2,b2];have:=qh (r:=y % 9223372036854775808) (s:=x % 9223372036854775808) (by omega);omega

def cj (n i u0 u1:Int):Int:=(n - i)*u0+i*u1
theorem tz {n i u0 u1:Int} (h0:0≤i) (h1:i≤n) (h:u0≤u1):u0*n≤cj n i u0 u1∧cj n i u0 u1≤u1*n:=by
 unfold cj
 have a:i*u0≤i*u1:=Int.mul_le_mul_of_nonneg_left h h0
 have b:(n - i)*u0≤(n - i)*u1:=Int.mul_le_mul_of_nonneg_left h (by omega)
 have e0:(n - i)*u0=n*u0 - i*u0:=Int.sub_mul ..
 have e1:(n - i)*u1=n*u1 - i*u1:=Int.sub_mul ..
 rw [Int.mul_comm u0 n,Int.mul_comm u1 n]
 omega
theorem tA {n i j u0 u1:Int} (h:u0≤u1) (hij:i≤j):cj n i u0 u1≤cj n j u0 u1:=by
 unfold cj
 have a:(j - i)*u0≤(j - i)*u1:=Int.mul_le_mul_of_nonneg_left h (by omega)
 rw [Int.sub_mul,Int.sub_mul] at a
 rw [Int.sub_mul,Int.sub_mul]
 omega
theorem kQ (n i u0 u1:Int):cj n i (-u0) (-u1)= -cj n i u0 u1:=by
 unfold cj
 rw [Int.mul_neg,Int.mul_neg];omega
end Go.Proofs.YtbokkedmfolfdaaGreat
namespace Go.Proofs.YtbokkedmfolfdaaGreat
open Go.RowKit

def bS (n i u0 u1 u2 u3:Int):Int:=(n - i)*(n - i)*(n - i)*u0+3*(n - i)*(n - i)*i*u1+3*(n - i)*i*i*u2+i*i*i*u3
def wA (n i:Int):Int:=n*n*n - (n - i)*(n - i)*(n - i)
def wB (n i:Int):Int:=i*i*(3*(n - i)+i)
def wC (i:Int):Int:=i*i*i
theorem pt (x:Int):3*x=x+x+x:=by omega
theorem yJ (x:Int):2*x=x+x:=by omega
theorem jP (n i u0 u1 u2 u3:Int):bS n i u0 u1 u2 u3=n*n*n*u0+wA n i*(u1 - u0)+wB n i*(u2 - u1)+wC i*(u3 - u2):=by
 unfold bS wA wB wC
 obtain⟨a,ha⟩:∃ a,n - i=a:=⟨_,rfl⟩
 have hn:n=a+i:=by omega
 rw [ha,hn]
 simp only [pt]
 simp only [Int.mul_add,Int.add_mul,Int.mul_sub,Int.sub_mul,Int.mul_assoc]
 simp only [Int.mul_comm,Int.mul_left_comm]
 omega
theorem pw {i j:Int} (h0:0≤i) (h:i≤j):wC i≤wC j:=by
 unfold wC
 have h1:i*i≤j*j:=Int.mul_le_mul h h h0 (by omega)
 exact Int.mul_le_mul h1 h h0 (Int.mul_nonneg (by omega) (by omega))
theorem wj {n i j:Int} (h:i≤j) (hn:j≤n):wA n i≤wA n j:=by
 unfold wA
 have:=pw (i:=n - j) (j:=n - i) (by omega) (by omega)
 unfold wC at this
 omega
theorem wk (a i t:Int):(i+t)*(i+t)*(3*(a - t)+(i+t)) - i*i*(3*a+i)=t*(3*(i*(2*a - t))+t*(3*a - 2*t)):=by
 simp only [pt,yJ]
 simp only [Int.mul_add,Int.add_mul,Int.mul_sub,Int.mul_assoc]
 simp only [Int.mul_comm,Int.mul_left_comm]
 omega
theorem wl {n i j:Int} (h0:0≤i) (h:i≤j) (hn:j≤n):wB n i≤wB n j:=by
 obtain⟨t,ht⟩:∃ t,j=i+t:=⟨j - i,by omega⟩
 obtain⟨a,ha⟩:∃ a,n - i=a:=⟨_,rfl⟩
 have e:=wk a i t
 unfold wB
 rw [ht,ha,show n - (i+t)=a - t by omega]
 have p1:0≤i*(2*a - t):=Int.mul_nonneg h0 (by omega)
 have p2:0≤t*(3*a - 2*t):=Int.mul_nonneg (by omega) (by omega)
 have p3:0≤t*(3*(i*(2*a - t))+t*(3*a - 2*t)):=Int.mul_nonneg (by omega) (by omega)
 omega
theorem ir {n i j u0 u1 u2 u3:Int} (h0:0≤i) (h:i≤j) (hn:j≤n) (h1:u0≤u1) (h2:u1≤u2) (h3:u2≤u3):bS n i u0 u1 u2 u3≤bS n j u0 u1 u2 u3:=by
 rw [jP,jP]
 have a:=Int.mul_le_mul_of_nonneg_right (wj h hn) (show 0≤u1 - u0 by omega)
 have b:=Int.mul_le_mul_of_nonneg_right (wl h0 h hn) (show 0≤u2 - u1 by omega)
 have c:=Int.mul_le_mul_of_nonneg_right (pw h0 h) (show 0≤u3 - u2 by omega)
 omega
theorem pA (n u0 u1 u2 u3:Int):bS n 0 u0 u1 u2 u3=u0*(n*n*n):=by
 unfold bS
 simp only [Int.sub_zero,Int.mul_zero,Int.zero_mul,Int.add_zero]
 exact Int.mul_comm _ _
theorem pB (n u0 u1 u2 u3:Int):bS n n u0 u1 u2 u3=u3*(n*n*n):=by
 unfold bS
 simp only [Int.sub_self,Int.mul_zero,Int.zero_mul,Int.zero_add]
 exact Int.mul_comm _ _
theorem xE {n i u0 u1 u2 u3:Int} (h0:0≤i) (h:i≤n) (h1:u0≤u1) (h2:u1≤u2) (h3:u2≤u3):u0*(n*n*n)≤bS n i u0 u1 u2 u3∧bS n i u0 u1 u2 u3≤u3*(n*n*n):=by
 have a:=ir (n:=n) (Int.le_refl 0) h0 h h1 h2 h3
 have b:=ir (n:=n) h0 h (Int.le_refl n) h1 h2 h3
 rw [pA] at a
 rw [pB] at b
 exact⟨a,b⟩
theorem pC (n i u0 u1 u2 u3:Int):bS n i (-u0) (-u1) (-u2) (-u3)= -bS n i u0 u1 u2 u3:=by
 unfold bS
 rw [Int.mul_neg,Int.mul_neg,Int.mul_neg,Int.mul_neg];omega
theorem lV {n i j u0 u1 u2 u3:Int} (h0:0≤i) (h:i≤j) (hn:j≤n) (h1:u1≤u0) (h2:u2≤u1) (h3:u3≤u2):bS n j u0 u1 u2 u3≤bS n i u0 u1 u2 u3:=by
 have:=ir (n:=n) (u0:=-u0) (u1:=-u1) (u2:=-u2) (u3:=-u3) h0 h hn (by omega) (by omega) (by omega)
 rw [pC,pC] at this
 omega
theorem xF {n i u0 u1 u2 u3:Int} (h0:0≤i) (h:i≤n) (h1:u1≤u0) (h2:u2≤u1) (h3:u3≤u2):u3*(n*n*n)≤bS n i u0 u1 u2 u3∧bS n i u0 u1 u2 u3≤u0*(n*n*n):=by
 have a:=lV (n:=n) (Int.le_refl 0) h0 h h1 h2 h3
 have b:=lV (n:=n) h0 h (Int.le_refl n) h1 h2 h3
 rw [pA] at a
 rw [pB] at b
 exact⟨b,a⟩
theorem yK {n i j u0 u1:Int} (h:u1≤u0) (hij:i≤j):cj n j u0 u1≤cj n i u0 u1:=by
 have:=tA (n:=n) (u0:=-u0) (u1:=-u1) (by omega) hij
 rw [kQ,kQ] at this
 omega
theorem xG {n i u0 u1:Int} (h0:0≤i) (h1:i≤n) (h:u1≤u0):u1*n≤cj n i u0 u1∧cj n i u0 u1≤u0*n:=by
 have:=tz (n:=n) (u0:=-u0) (u1:=-u1) h0 h1 (by omega)
 rw [kQ,Int.neg_mul,Int.neg_mul] at this
 omega
end Go.Proofs.YtbokkedmfolfdaaGreat
namespace Go.Proofs.YtbokkedmfolfdaaGreat

theorem wu {X X' Y k:Nat} (h:X≤X'):aK X Y k≤aK X' Y k:=by
 unfold aK
 have hA:X*2^k≤X'*2^k:=Nat.mul_le_mul_right _ h
 generalize X*2^k=A at *
 generalize X'*2^k=B at *
 have hq:=Nat.div_le_div_right (c:=Y) hA
 have e1:=Nat.div_add_mod A Y
 have e2:=Nat.div_add_mod B Y
 by_cases hc:A / Y=B / Y
 ·rw [hc] at e1 ⊢
  have:A % Y≤B % Y:=by omega
  split<;>split<;>omega
 ·split<;>split<;>omega
theorem qX {X Y Y' k:Nat} (hY:0<Y) (h:Y≤Y'):aK X Y' k≤aK X Y k:=by
 unfold aK
 generalize X*2^k=A
 have hq:=Nat.div_le_div_left (a:=A) h hY
 have e1:=Nat.div_add_mod A Y
 have e2:=Nat.div_add_mod A Y'
 by_cases hc:A / Y'=A / Y
 ·have hm:Y*(A / Y)≤Y'*(A / Y):=Nat.mul_le_mul_right _ h
  rw [hc] at e2 ⊢
  have:A % Y'≤A % Y:=by omega
  split<;>split<;>omega
 ·split<;>split<;>omega
theorem nW {X Y a b K:Nat} (h:b≤a+K):aK (X*2^a) (Y*2^b) K=aK X Y (a+K - b):=by
 have e:X*2^a*2^K=X*2^(a+K - b)*2^b:=by
  rw [Nat.mul_assoc,← Nat.pow_add,Nat.mul_assoc,← Nat.pow_add,show a+K - b+b=a+K by omega]
 unfold aK
 rw [e,Nat.mul_div_mul_right _ _ (Nat.two_pow_pos b),Nat.mul_mod_mul_right]
 have hp:=Nat.two_pow_pos b
 generalize X*2^(a+K - b) % Y=m
 by_cases hm:m=0
 ·rw [if_pos hm,if_pos (by rw [hm,Nat.zero_mul])]
 ·rw [if_neg hm,if_neg (fun e=>by rcases Nat.mul_eq_zero.1 e with e | e<;>omega)]
def qR (X Y:Nat):Nat:=if X=0 then 0 else ag (aK X Y 2200) (-2201)
theorem yL {X X' Y:Nat} (h:X≤X'):qR X Y≤qR X' Y:=by
 unfold qR
 by_cases h0:X=0
 ·rw [if_pos h0];exact Nat.zero_le _
 ·rw [if_neg h0,if_neg (by omega)]
  exact aU _ (wu h)
theorem wv {X Y Y':Nat} (hY:0<Y) (h:Y≤Y'):qR X Y'≤qR X Y:=by
 unfold qR
 by_cases h0:X=0
 ·rw [if_pos h0,if_pos h0];exact Nat.le_refl _
 ·rw [if_neg h0,if_neg h0]
  exact aU _ (qX hY h)
theorem tE {r:Nat} (h:r<9218868437227405312):pl r≤2046:=by unfold pl;omega
theorem iv {x y:Nat} (hx:ab x) (hy:ab y) (h1:y % 9223372036854775808≠0):∃ r,floatBits .quo .f64 x y=some r∧RkW r (sgZ (sB x^^sB y) (qR (aV x) (aV y))):=by
 by_cases h0:x % 9223372036854775808=0
 ·refine⟨_,tc h0 hy h1,?_⟩
  have e:aV x=0:=by unfold aV;rw [h0];exact aR
  have e2:qR (aV x) (aV y)=0:=by unfold qR;rw [if_pos e]
  rw [e2]
  exact kT (by omega)
 ·have hpx:=tE hx
  have hpy:=tE hy
  have hk:54+(mg (y % 9223372036854775808)).log2 - (mg (x % 9223372036854775808)).log2≤pl (x % 9223372036854775808)+2200 - pl (y % 9223372036854775808):=by
   have:=lC (y % 9223372036854775808)
   have hl:(mg (y % 9223372036854775808)).log2<53:=(Nat.log2_lt (cX h1)).2 (by omega)
   omega
  refine⟨_,kL hx hy h0 h1 rfl rfl rfl rfl hk,?_⟩
  have hz:aV x≠0:=by
   intro e
   exact h0 (wa e)
  have e2:qR (aV x) (aV y)=ag (aK (mg (x % 9223372036854775808)) (mg (y % 9223372036854775808)) (pl (x % 9223372036854775808)+2200 - pl (y % 9223372036854775808))) (-1074+(pl (x % 9223372036854775808):Int) - (-1074+(pl (y % 9223372036854775808):Int)) - 1 - ((pl (x % 9223372036854775808)+2200 - pl (y % 9223372036854775808):Nat):Int)):=by
   unfold qR
   rw [if_neg hz]
   unfold aV V
   rw [nW (by omega)]
   congr 1
   omega
  rw [e2]
  exact kT (fv _ _)
end Go.Proofs.YtbokkedmfolfdaaGreat
namespace Go.Proofs.YtbokkedmfolfdaaGreat
open Go.RowKit

end Go.Proofs.YtbokkedmfolfdaaGreat
namespace Go.Proofs.YtbokkedmfolfdaaGreat
open Go.RowKit

theorem wH (r:Nat):fl (r:Int)=(mg r:Int):=by
 unfold fl mg
 by_cases c:r<4503599627370496
 ·rw [if_pos c,if_pos (by omega)]
 ·rw [if_neg c,if_neg (by omega)];omega
theorem wI (r:Nat):lD (r:Int)= -1074+(pl r:Int):=by
 unfold lD pl
 by_cases c:r<4503599627370496
 ·rw [if_pos (by omega)];omega
 ·rw [if_neg (by omega)];omega
theorem tS {p:Nat} {neg:Bool} {N:Nat} {e:Int} (h:OfR p neg N e) (h64:p<18446744073709551616) (hn:ab p) (h0:N≠0):ar (p:Int)=sg neg N∧aB (p:Int)=e∧neg=sB p:=by
 obtain⟨m1,m2⟩:=h.mag h0
 have hsz:=kG p
 unfold ab at hn
 have hok:av (p:Int)=true:=by unfold av;rw [hsz];simp;omega
 have hr0:p % 9223372036854775808≠0:=by
  intro e0;rw [e0] at m1;exact h0 (by rw [m1];decide)
 refine⟨?_,?_,h.sgn h0⟩
 ·unfold ar
  rw [hok,if_pos rfl,hsz,wH,← m1,vU h64,← h.sgn h0]
  rfl
 ·unfold aB
  rw [hok,hsz,wI,← m2,show decide (((p % 9223372036854775808:Nat):Int)≠0)=true by simpa using fun h=>hr0 (by omega)]
  rfl
end Go.Proofs.YtbokkedmfolfdaaGreat
namespace Go.Proofs.YtbokkedmfolfdaaGreat
open Go.RowKit

theorem yO {o:Option Nat} {r:Nat} (h:Ag o r) (ho:∀ q,o=some q→q<18446744073709551616):r<18446744073709551616:=by
 cases o with
 | none=>exact (bV h).2
 | some q=>rw [bq h];exact ho q rfl
end Go.Proofs.YtbokkedmfolfdaaGreat
namespace Go.Proofs.YtbokkedmfolfdaaGreat
open Go.RowKit

theorem iK {f:Nat} {args:Array Value} {v:Value} {w:World} (h:Calls Tryz.prog f args w fun e w'=>e=.returned v∧w'=w):Calls Tryz.prog f args w fun e w'=>e=.returned v∧Below w.heap.size w w':=
 h.mono fun _ _ ⟨a,b⟩=>⟨a,by rw [b];exact Below.refl _ _⟩
theorem tT (m e:Int):aw m e<18446744073709551616:=by
 unfold aw
 have h1:=dt m.natAbs e
 split
 ·decide
 ·split<;>omega

end Go.Proofs.YtbokkedmfolfdaaGreat
namespace Go.Proofs.YtbokkedmfolfdaaGreat
open Go.RowKit

theorem tU {cs:List Nat} {x:Nat} (hx:af (x:Int)=true) (hl:2≤cs.length):bC cs x=none:=by
 obtain⟨k,hk⟩:∃ k,cs.length - 1=k+1:=⟨cs.length - 2,by omega⟩
 unfold bC
 rw [if_neg (by omega),hk]
 show dS x (hornAt cs x k) _=none
 unfold dS
 cases hornAt cs x k with
 | none=>rfl
 | some p=>
  show (floatBits .mul .f64 p x).bind _=none
  rw [jI hx];rfl
theorem wL {cs:List Nat} {z:Option Nat} {x:Nat} (h:Ag z x) (hl:2≤cs.length):(z.bind fun z=>bC cs z)=bC cs x:=by
 cases z with
 | none=>rw [tU (bV h).1 hl];rfl
 | some r=>rw [bq h];rfl
def lnO (a b hi lo:Nat):Option Nat:=
 opO .add (some hi) (opO .add (opO .mul (opO .mul (some 4611686018427387904) (floatBits .quo .f64 a b)) ((opO .mul (floatBits .quo .f64 a b) (floatBits .quo .f64 a b)).bind fun z=>bC lnL z)) (some lo))
theorem eP:lnL.length=11:=by decide
theorem tV {a b hi lo s s2 z h v c r:Nat} (g3:Ag (floatBits .quo .f64 a b) s) (g4:Ag (floatBits .mul .f64 4611686018427387904 s) s2) (g5:Ag (floatBits .mul .f64 s s) z) (g6:Ag (bC lnL z) h) (g7:Ag (floatBits .mul .f64 s2 h) v) (g8:Ag (floatBits .add .f64 v lo) c) (g9:Ag (floatBits .add .f64 hi c) r):Ag (lnO a b hi lo) r:=by
 unfold lnO
 have e0:Ag (some 4611686018427387904) 4611686018427387904:=rfl
 have e4:Ag (opO .mul (some 4611686018427387904) (floatBits .quo .f64 a b)) s2:=by rw [dx e0 g3];exact g4
 have e5:Ag (opO .mul (floatBits .quo .f64 a b) (floatBits .quo .f64 a b)) z:=by rw [dx g3 g3];exact g5
 have e6:Ag ((opO .mul (floatBits .quo .f64 a b) (floatBits .quo .f64 a b)).bind fun z=>bC lnL z) h:=by rw [wL e5 (by rw [eP];decide)];exact g6
 have e7:Ag (opO .mul (opO .mul (some 4611686018427387904) (floatBits .quo .f64 a b)) ((opO .mul (floatBits .quo .f64 a b) (floatBits .quo .f64 a b)).bind fun z=>bC lnL z)) v:=by rw [dx e4 e6];exact g7
 have e8:=dx (op:=.add) (o':=some lo) (c:=lo) e7 rfl
 rw [← e8] at g8
 have e9:=dx (op:=.add) (o:=some hi) (a:=hi) rfl g8
 rw [← e9] at g9
 exact g9

set_option maxRecDepth 20000 in
set_option maxHeartbeats 1600000 in
theorem yP (x m a b kf hi lo:Nat) (k:Int) (w:World) (h:U64 x) (hn:af x=false) (hl:(FloatKind.f64.format.order x 0==some .lt)=false) (he:(FloatKind.f64.format.order x 0==some .eq)=false) (hi0:(FloatKind.f64.format.order x 9218868437227405311==some .gt)=false)
  (hA:Hid (∀ w,Calls Tryz.prog 112 #[.float .f64 x] w fun r w'=>r=.returned (.tuple #[.float .f64 m,.int .i64 k])∧∃ q,w'=w.drewN q))
  (q1:floatBits .sub .f64 m 4607182418800017408=some a) (q2:floatBits .add .f64 m 4607182418800017408=some b) (hkf:fi k=kf) (q8:floatBits .mul .f64 kf 4604418534311723008=some hi) (q9:floatBits .mul .f64 kf 4461442080421002358=some lo) :
  Calls Tryz.prog 103 #[.float .f64 x] w fun e w'=>∃ r,e=.returned (.float .f64 r)∧Ag (lnO a b hi lo) r∧Below w.heap.size w w':=by
 have H:=hideS (az x w h)
 rw [hn] at H
 have HI:=hideS (fE x false w hi0)
 have r1:=fun w=>run_float_arith (P:=Tryz.prog) w .sub 34 .f64 _ _ _ q1
 have r2:=fun w=>run_float_arith (P:=Tryz.prog) w .add 34 .f64 _ _ _ q2
 have hfo:=(aC k).trans hkf
 have HL:Hid (∀ w,Calls Tryz.prog 109 #[.float .f64 kf] w fun e w'=>e=.returned (.tuple #[.float .f64 hi,.float .f64 lo])∧w'=w):=fun w=>pG kf hi lo w q8 q9
 clear h hn q1 q2 q8 q9 hi0 hkf
 go_enter Tryz.func103,Tryz.ntmps103
 go_wp2_with fail
 refine (turned H.out).mono ?_
 rintro e w' ⟨rfl,rfl⟩
 clear H
 go_wp2_with fail
 refine (turned HI.out).mono ?_
 rintro e w' ⟨rfl,rfl⟩
 clear HI
 go_wp2_with fail
 refine (hA.out _).mono ?_
 rintro e w' ⟨rfl,q,hw'⟩
 have B0:Hid (Below w.heap.size w w'):=by rw [hw'];exact⟨rfl,rfl,rfl,Nat.le_refl _,fun _ _=>rfl⟩
 clear hw'
 obtain⟨s,⟨q3,r3⟩,g3⟩:=bD .quo (by simp) 34 a b w'
 obtain⟨s2,⟨q4,r4⟩,g4⟩:=bD .mul (by simp) 34 4611686018427387904 s (w'.drewN q3)
 have G3:=hideS g3
 have G4:=hideS g4
 clear g3 g4
 go_wp2_with fail
 obtain⟨w2,hw2⟩:∃ w2,w2=w'.drewN (q3+q4):=⟨_,rfl⟩
 rw [← hw2]
 have B2:Hid (Below w.heap.size w w2):=by rw [hw2];exact⟨B0.out.os,B0.out.tape,B0.out.output,B0.out.size,B0.out.block⟩
 clear hw2 r3 r4 B0
 have HT:=hideS (mf w2)
 refine HT.out.mono ?_
 rintro e w3 ⟨rfl,hs,hb⟩
 have B3:Hid (Below w.heap.size w w3):=B2.out.trans (hb.mono B2.out.size)
 obtain⟨z,⟨q5,r5⟩,g5⟩:=bD .mul (by simp) 34 s s w3
 have HH:Hid (Calls Tryz.prog 110 #[.slice (some ⟨w2.heap.size,0,none⟩) 11 11,.float .f64 z] (w3.drewN q5) fun e w4=>∃ r',e=.returned (.float .f64 r')∧Ag (bC lnL z) r'∧∃ q,w4=(w3.drewN q5).drewN q):=ib _ w2.heap.size 0 11 z 11 lnL (w3.drewN q5) (hs.below ⟨rfl,rfl,rfl,Nat.le_refl _,fun _ _=>rfl⟩) rfl (by decide)
 have G5:=hideS g5
 clear hs hb HT B2 g5
 go_wp2_with fail
 refine HH.out.mono ?_
 rintro e w4 ⟨h',rfl,hag,q6,hw4⟩
 have B4:Hid (Below w.heap.size w w4):=by rw [hw4];exact⟨B3.out.os,B3.out.tape,B3.out.output,B3.out.size,B3.out.block⟩
 obtain⟨v,⟨q7,r7⟩,g7⟩:=bD .mul (by simp) 34 s2 h' w4
 have G6:=hideS hag
 have G7:=hideS g7
 clear hag g7 hw4 HH B3 r5
 go_wp2_with fail
 obtain⟨w5,hw5⟩:∃ w5,w5=w4.drewN q7:=⟨_,rfl⟩
 rw [← hw5]
 have B5:Hid (Below w.heap.size w w5):=by rw [hw5];exact⟨B4.out.os,B4.out.tape,B4.out.output,B4.out.size,B4.out.block⟩
 clear hw5 r7 B4
 refine (turned (HL.out _)).mono ?_
 rintro e w' ⟨rfl,rfl⟩
 obtain⟨c,⟨q8,r8⟩,g8⟩:=bD .add (by simp) 34 v lo w5
 obtain⟨r,⟨q9,r9⟩,g9⟩:=bD .add (by simp) 34 hi c (w5.drewN q8)
 have GE:=hideS (tV G3.out G4.out G5.out G6.out G7.out g8 g9)
 clear g8 g9 G3 G4 G5 G6 G7
 go_wp2_with fail
 go_ret
 exact⟨r,rfl,GE.out,⟨B5.out.os,B5.out.tape,B5.out.output,B5.out.size,B5.out.block⟩⟩
end Go.Proofs.YtbokkedmfolfdaaGreat
namespace Go.Proofs.YtbokkedmfolfdaaGreat
open Go.RowKit

def eQ (N:Nat):Nat:=4602678819172646912+N*2^(52 - N.log2)
theorem iL {N:Nat} (h0:N≠0) (h:N<9007199254740992):4503599627370496≤N*2^(52 - N.log2)∧N*2^(52 - N.log2)<9007199254740992:=by
 have hl:N.log2≤52:=by have:=(Nat.log2_lt h0).2 (show N<2^53 from h);omega
 have a:=Nat.log2_self_le h0
 have b:N<2^(N.log2+1):=Nat.lt_log2_self
 constructor
 ·have:=Nat.mul_le_mul_right (2^(52 - N.log2)) a
  rw [← Nat.pow_add,show N.log2+(52 - N.log2)=52 by omega] at this;exact this
 ·have:=Nat.mul_lt_mul_of_pos_right b (Nat.two_pow_pos (52 - N.log2))
  rw [← Nat.pow_add,show N.log2+1+(52 - N.log2)=53 by omega] at this;exact this
theorem rh {N:Nat} (h0:N≠0) (h:N<9007199254740992):ag N (-(N.log2:Int))=eQ N:=by
 have hl:N.log2≤52:=by have:=(Nat.log2_lt h0).2 (show N<2^53 from h);omega
 obtain⟨p1,p2⟩:=iL h0 h
 have e:=bA h0 (52 - N.log2) (-(N.log2:Int))
 rw [show -(N.log2:Int) - ((52 - N.log2:Nat):Int)= -52 by omega] at e
 rw [← e]
 unfold eQ
 generalize N*2^(52 - N.log2)=k at *
 have m1:mg (4602678819172646912+k)=k:=by unfold mg;rw [if_neg (by omega)];omega
 have m2:pl (4602678819172646912+k)=1022:=by unfold pl;omega
 have:=gS (r:=4602678819172646912+k) (by omega) (by omega)
 rw [m1,m2] at this
 exact this
theorem iM {N:Nat} (h0:N≠0) (h:N<9007199254740992):4607182418800017408≤eQ N∧eQ N<4611686018427387904:=by
 obtain⟨p1,p2⟩:=iL h0 h
 unfold eQ;omega
theorem xR {r:Nat} (h:9007199254740992≤r):V r=2*V (r - 4503599627370496)∧mg (r - 4503599627370496)=mg r∧pl r=pl (r - 4503599627370496)+1:=by
 have e1:mg (r - 4503599627370496)=mg r:=by unfold mg;rw [if_neg (by omega),if_neg (by omega)];omega
 have e2:pl r=pl (r - 4503599627370496)+1:=by unfold pl;omega
 refine⟨?_,e1,e2⟩
 unfold V
 rw [e1,e2,Nat.pow_succ,← Nat.mul_assoc,Nat.mul_comm]
theorem rj (x:Nat):wrd (false^^false) x=x:=rfl
theorem tW {r:Nat} (h:9007199254740992≤r) (h2:r<9218868437227405312):floatBits .quo .f64 r 4611686018427387904=some (r - 4503599627370496):=by
 have hr:ab r:=by unfold ab;omega
 have hm:r % 9223372036854775808=r:=Nat.mod_eq_of_lt (by omega)
 have hX0:mg r≠0:=cX (by omega)
 have hXg:4503599627370496≤mg r:=sw (by omega)
 have hlg:52≤(mg r).log2:=(Nat.le_log2 hX0).2 hXg
 have hY:mg (4611686018427387904 % 9223372036854775808)=4503599627370496:=by decide
 have hpY:pl (4611686018427387904 % 9223372036854775808)=1023:=by decide
 have hYl:Nat.log2 4503599627370496=52:=by decide
 have e:=kL (x:=r) (y:=4611686018427387904) hr (by unfold ab;decide) (by omega) (by decide) (X:=mg r) (Y:=4503599627370496) (ex:=-1074+(pl r:Int)) (ey:=-51) (by rw [hm]) hY.symm (by rw [hm]) (by rw [hpY];rfl) (k:=54) (by rw [hYl];omega)
 rw [e]
 refine congrArg some ?_
 have hq:aK (mg r) 4503599627370496 54=mg r*2^3:=by
  unfold aK
  rw [show (2:Nat)^54=4*4503599627370496 from rfl,← Nat.mul_assoc,Nat.mul_div_cancel _ (by decide),Nat.mul_mod_left,if_pos rfl];omega
 have hs:sB r=false:=by unfold sB;rw [show r / 9223372036854775808=0 by omega];rfl
 have hs2:sB 4611686018427387904=false:=by decide
 rw [hq,hs,hs2]
 obtain⟨v1,v2,v3⟩:=xR h
 have e2:=bA hX0 3 (-1074+(pl r:Int) - 1)
 rw [show -1074+(pl r:Int) - 1 - ((3:Nat):Int)= -1074+(pl r:Int) - -51 - 1 - ((54:Nat):Int) by omega] at e2
 rw [e2,← v2,v3,show -1074+((pl (r - 4503599627370496)+1:Nat):Int) - 1= -1074+(pl (r - 4503599627370496):Int) by omega,gS (by omega) (by omega)]
 exact rj _

def lnM (N:Nat):Nat:=if 4609047870845172685<eQ N then eQ N - 4503599627370496 else eQ N
def lnK (N:Nat) (e:Int):Int:=if 4609047870845172685<eQ N then e+(N.log2:Int)+1 else e+(N.log2:Int)
theorem wM {N:Nat} (h0:N≠0) (h:N<9007199254740992):ab (lnM N)∧lnM N<9218868437227405312:=by
 obtain⟨a,b⟩:=iM h0 h
 unfold lnM ab
 split<;>omega
theorem wN {m:Nat} (h:m<9218868437227405312):(FloatKind.f64.format.order m 4609047870845172685==some .gt)=decide (4609047870845172685<m):=by
 have u1:U64 (m:Int):=by unfold U64;omega
 have u2:U64 ((4609047870845172685:Nat):Int):=by unfold U64;omega
 have r1:=iB (b:=m) h
 have r2:=iB (b:=4609047870845172685) (by decide)
 rw [eM u1 u2 r1.2.1 r2.2.1,r1.2.2,r2.2.2]
 exact decide_eq_decide.2 (by omega)

theorem oc (x N:Nat) (e:Int) (hx:U64 x) (hn:ab x) (ho:OfR x false N e) (h0:N≠0) (w:World) :
  Calls Tryz.prog 112 #[.float .f64 x] w fun r w'=>r=.returned (.tuple #[.float .f64 (lnM N),.int .i64 (lnK N e)])∧∃ q,w'=w.drewN q:=by
 have hx64:x<18446744073709551616:=by have:=hx.2;omega
 obtain⟨s1,s2,_⟩:=tS ho hx64 hn h0
 have hlt:=ho.lt
 have hlo:=ho.lo
 have hhi:=ho.hi
 have hl:N.log2≤52:=by have:=(Nat.log2_lt h0).2 (show N<2^53 from hlt);omega
 have hS:Hid (∀ w,Calls Tryz.prog 36 #[.float .f64 x] w fun r w'=>r=.returned (.tuple #[.int .i64 (N:Int),.int .i64 e,.bool (av (x:Int))])∧w'=w):=fun w=>by
  have:=ce x x w rfl hx
  rw [s1,s2] at this;exact this
 have hL:Hid (∀ w,Calls Tryz.prog 118 #[.int .u64 (N:Int)] w fun r w'=>r=.returned (.int .i64 ((N.log2:Int)+1))∧w'=w):=fun w=>by
  have:=Tryz.bits_Len (N:Int) w (by omega) (by omega)
  rw [Int.toNat_natCast,dp h0 (by omega)] at this
  exact this
 have hJ:Hid (∀ w,Calls Tryz.prog 52 #[.int .i64 (N:Int),.int .i64 (1 - ((N.log2:Int)+1))] w fun r w'=>r=.returned (.float .f64 (eQ N))∧∃ q,w'=w.drewN q):=fun w=>by
  have:=aP (N:Int) (1 - ((N.log2:Int)+1)) w (by omega) (by omega)
  have e:aw (N:Int) (1 - ((N.log2:Int)+1))=eQ N:=by
   unfold aw
   rw [if_neg (by omega),if_neg (by omega),Int.natAbs_natCast,show 1 - ((N.log2:Int)+1)= -(N.log2:Int) by omega,rh h0 hlt]
  rw [e] at this;exact this
 obtain⟨o1,o2⟩:=iM h0 hlt
 have:=rg x (eQ N) (eQ N - 4503599627370496) (N:Int) e ((N.log2:Int)+1) _ _ w hS (by omega) (by omega) hL (by omega) hJ (wN (by omega)) (tW (by omega) (by omega))
 refine this.mono ?_
 rintro r w' ⟨rfl,hq⟩
 refine⟨?_,hq⟩
 unfold lnM lnK
 by_cases c:4609047870845172685<eQ N
 ·rw [if_pos c,if_pos c,decide_eq_true c]
  simp only [if_true]
  rw [show e+((N.log2:Int)+1)=e+(N.log2:Int)+1 by omega]
 ·rw [if_neg c,if_neg c,decide_eq_false c]
  simp only [Bool.false_eq_true,if_false]
  rw [show e+((N.log2:Int)+1) - 1=e+(N.log2:Int) by omega]
end Go.Proofs.YtbokkedmfolfdaaGreat
namespace Go.Proofs.YtbokkedmfolfdaaGreat
open Go.RowKit

theorem xS (op:BinOp) (o o':Option Nat):floatBits op .f64 (cn o) (cn o')=opO op o o':=(dx (xo o) (xo o')).symm

theorem xT {op:BinOp} (ho:op=.add∨op=.sub∨op=.mul∨op=.quo) (o o':Option Nat):cn (opO op o o')<18446744073709551616:=by rw [← xS];exact yB ho _ _

end Go.Proofs.YtbokkedmfolfdaaGreat
namespace Go.Proofs.YtbokkedmfolfdaaGreat
open Go.RowKit

end Go.Proofs.YtbokkedmfolfdaaGreat
namespace Go.Proofs.YtbokkedmfolfdaaGreat

theorem tX {r:Nat} (h:ab r) (h2:r<18446744073709551616): -9218868437227405312<aa r∧aa r<9218868437227405312:=by
 rw [← aO h2 (dK h)]
 unfold ab at h
 unfold sgn
 generalize (r / 9223372036854775808 % 2==1)=p at *
 cases p<;>simp only [Bool.false_eq_true,if_true,if_false]<;>omega
theorem tY {b:Nat} (h:0<vI b):sB b=false∧vI b=(aV b:Int)∧b % 9223372036854775808≠0:=by
 have hz:b % 9223372036854775808≠0:=by
  intro e
  rw [jU] at h
  have:aV b=0:=by unfold aV;rw [e];exact aR
  rw [this] at h
  unfold sgZ at h
  split at h<;>omega
 rw [jU] at h ⊢
 unfold sgZ at h ⊢
 cases e:sB b
 ·exact⟨rfl,by simp only [Bool.false_eq_true,if_false],hz⟩
 ·rw [e] at h;simp only [if_true] at h;omega
theorem dy {op:BinOp} {x y f:Nat} {k:Int} (h:∃ r,floatBits op .f64 x y=some r∧RkW r k) (hf:floatBits op .f64 x y=some f):RkW f k:=by
 obtain⟨r,e,hr⟩:=h
 obtain rfl:=Option.some.inj (e.symm.trans hf)
 exact hr
end Go.Proofs.YtbokkedmfolfdaaGreat
namespace Go.Proofs.YtbokkedmfolfdaaGreat
open Go.RowKit

structure Bd (x c:Nat):Prop where
 num:ab x
 lt:x<18446744073709551616
 lo: -(vI c)≤vI x
 hi:vI x≤vI c
theorem tZ {c:Nat} (hc:ab c) (h:c<18446744073709551616):ab (flipN c)∧flipN c<18446744073709551616∧aa (flipN c:Int)= -aa (c:Int)∧vI (flipN c)= -(vI c):=by
 obtain⟨h1,h2,h3⟩:=cY h
 have hn:ab (flipN c):=by unfold ab at hc ⊢;rw [h2];exact hc
 refine⟨hn,h1,?_,?_⟩
 ·rw [← aO h1 (dK hn),← aO h (dK hc),h2,h3]
  unfold sgn
  cases (c / 9223372036854775808 % 2==1)<;>simp
 ·unfold vI
  rw [h2,h3]
  cases (c / 9223372036854775808 % 2==1)<;>simp
theorem pH {r c:Nat} {k:Int} (hr:RkW r k) (hc:ab c) (h:c<18446744073709551616) (h1: -aa (c:Int)≤k) (h2:k≤aa (c:Int)):Bd r c:=by
 obtain⟨f1,f2,f3,f4⟩:=tZ hc h
 have hk:=tX hc h
 have hn:ab r:=ma hr (by omega) (by omega)
 refine⟨hn,hr.2.1,?_,?_⟩
 ·rw [← f4]
  refine (aX f1 hn f2 hr.2.1).1 ?_
  rw [f3,hr.1];exact h1
 ·refine (aX hn hc hr.2.1 h).1 ?_
  rw [hr.1];exact h2
theorem lh {x y a b c:Nat} (hx:Bd x a) (hy:Bd y b) (ha:ab a) (hb:ab b) (hc:ab c) (e:floatBits .add .f64 a b=some c):∃ r,floatBits .add .f64 x y=some r∧Bd r c:=by
 obtain⟨r,e1,k1⟩:=cr hx.num hy.num
 have k2:=dy (cr ha hb) e
 have:=hx.lo;have:=hx.hi;have:=hy.lo;have:=hy.hi
 refine⟨r,e1,pH k1 hc k2.2.1 ?_ ?_⟩
 ·rw [k2.1,← kS];exact cq _ (by omega)
 ·rw [k2.1];exact cq _ (by omega)
theorem xU {x y a b c:Nat} (hx:Bd x a) (hy:Bd y b) (ha:ab a) (hb:ab b) (hc:ab c) (e:floatBits .add .f64 a b=some c):∃ r,floatBits .sub .f64 x y=some r∧Bd r c:=by
 obtain⟨r,e1,k1⟩:=lZ hx.num hy.num
 have k2:=dy (cr ha hb) e
 have:=hx.lo;have:=hx.hi;have:=hy.lo;have:=hy.hi
 refine⟨r,e1,pH k1 hc k2.2.1 ?_ ?_⟩
 ·rw [k2.1,← kS];exact cq _ (by omega)
 ·rw [k2.1];exact cq _ (by omega)
theorem fF {x y a b c:Nat} (hx:Bd x a) (hy:Bd y b) (ha:ab a) (hb:ab b) (hc:ab c) (e:floatBits .mul .f64 a b=some c):∃ r,floatBits .mul .f64 x y=some r∧Bd r c:=by
 obtain⟨r,e1,k1⟩:=iu hx.num hy.num
 have k2:=dy (iu ha hb) e
 obtain⟨l,u⟩:=iI hx.lo hx.hi hy.lo hy.hi
 refine⟨r,e1,pH k1 hc k2.2.1 ?_ ?_⟩
 ·rw [k2.1,← kS];exact cq _ l
 ·rw [k2.1];exact cq _ u
theorem vI_abs (x:Nat):vI x=(aV x:Int)∨vI x= -(aV x:Int):=by
 rw [jU];unfold sgZ
 cases sB x
 ·exact Or.inl rfl
 ·exact Or.inr rfl
theorem xW {x y a d c:Nat} (hx:Bd x a) (hy:ab y) (hd:vI d≤vI y) (d0:0<vI d) (ha:ab a) (hdn:ab d) (hc:ab c) (e:floatBits .quo .f64 a d=some c):∃ r,floatBits .quo .f64 x y=some r∧Bd r c:=by
 obtain⟨s1,e1,z1⟩:=tY (b:=y) (by omega)
 obtain⟨s2,e2,z2⟩:=tY d0
 obtain⟨r,e3,k3⟩:=iv hx.num hy z1
 have k4:=dy (iv ha hdn z2) e
 have a0:0≤vI a:=by have:=hx.lo;have:=hx.hi;omega
 have hax:aV x≤aV a:=by
  have h1:=hx.lo
  have h2:=hx.hi
  rcases vI_abs x with h | h<;>rcases vI_abs a with h' | h'<;>omega
 have hq:qR (aV x) (aV y)≤qR (aV a) (aV d):=Nat.le_trans (yL hax) (wv (by omega) (by omega))
 have hrc:aa (c:Int)=(qR (aV a) (aV d):Int):=by
  rw [k4.1,s2]
  by_cases hz:aV a=0
  ·have:qR (aV a) (aV d)=0:=by unfold qR;rw [if_pos hz]
   rw [this];unfold sgZ;split<;>simp
  ·have:sB a=false:=by
    have h1:=jU a
    cases hs:sB a with
    | false=>rfl
    | true=>rw [hs] at h1;unfold sgZ at h1;simp at h1;omega
   rw [this];rfl
 refine⟨r,e3,pH k3 hc k4.2.1 ?_ ?_⟩
 ·rw [hrc];unfold sgZ;split<;>omega
 ·rw [hrc];unfold sgZ;split<;>omega
theorem df {x c:Nat} (h:x≤c) (hc:c<9218868437227405312):Bd x c:=by
 have hx:ab x:=by unfold ab;omega
 have hn:ab c:=by unfold ab;omega
 have r1:=(ek (r:=x) (by omega)).1
 have r2:=(ek (r:=c) (by omega)).1
 have r0:aa ((0:Nat):Int)=0:=by decide
 have v0:vI 0=0:=by decide+kernel
 have n0:ab 0:=by unfold ab;decide
 have h1:=(aX hx hn (by omega) (by omega)).1 (by rw [r1,r2];omega)
 have h2:=(aX n0 hx (by omega) (by omega)).1 (by rw [r0,r1];omega)
 have h3:=(aX n0 hn (by omega) (by omega)).1 (by rw [r0,r2];omega)
 rw [v0] at h2 h3
 exact⟨hx,by omega,by omega,h1⟩
end Go.Proofs.YtbokkedmfolfdaaGreat
namespace Go.Proofs.YtbokkedmfolfdaaGreat
open Go.RowKit

theorem wO {cs:List Nat} {x z:Nat} {B M:Nat→Nat} {n:Nat} (hx:Bd x z) (hz:ab z) (h0:Bd (cs.getD (cs.length - 1) 0) (B 0)) (hB:∀ i,i≤n→ab (B i)) (hM:∀ i,i<n→ab (M i)) (hc:∀ i,i<n→Bd (cs.getD (cs.length - 2 - i) 0) 4607182418800017408)
  (e1:∀ i,i<n→floatBits .mul .f64 (B i) z=some (M i)) (e2:∀ i,i<n→floatBits .add .f64 (M i) 4607182418800017408=some (B (i+1))):∀ i,i≤n→∃ r,hornAt cs x i=some r∧Bd r (B i):=by
 intro i
 induction i with
 | zero=>exact fun _=>⟨_,rfl,h0⟩
 | succ i ih=>
  intro hi
  obtain⟨r,hr,hb⟩:=ih (by omega)
  obtain⟨m,hm,hbm⟩:=fF hb hx (hB i (by omega)) hz (hM i (by omega)) (e1 i (by omega))
  obtain⟨s,hs,hbs⟩:=lh hbm (hc i (by omega)) (hM i (by omega)) (by unfold ab;decide) (hB (i+1) hi) (e2 i (by omega))
  refine⟨s,?_,hbs⟩
  show dS x (hornAt cs x i) _=some s
  rw [hr]
  show ((some r).bind fun p=>floatBits .mul .f64 p x).bind _=some s
  rw [show ((some r).bind fun p=>floatBits .mul .f64 p x)=floatBits .mul .f64 r x from rfl,hm]
  exact hs
def nineN:Nat→Nat
 | 0=>1
 | n+1=>9*nineN n+1
def mo (i:Nat):Nat:=fi (nineN i:Int)
def pI (i:Nat):Nat:=fi ((9*nineN i:Nat):Int)
theorem dz:∀ i,i<11→(mo i) % 9223372036854775808<9218868437227405312∧(pI i) % 9223372036854775808<9218868437227405312∧floatBits .mul .f64 (mo i) 4621256167635550208=some (pI i)∧floatBits .add .f64 (pI i) 4607182418800017408=some (mo (i+1)):=by decide+kernel
theorem pJ:∀ i,i<11→lnL.getD i 0≤4607182418800017408:=by decide+kernel
theorem wP {z:Nat} (hz:Bd z 4621256167635550208):∃ h,bC lnL z=some h∧Bd h (mo 10):=by
 have hb:=wO (cs:=lnL) (x:=z) (z:=4621256167635550208) (B:=mo) (M:=pI) (n:=10) hz (by unfold ab;decide) (df (pJ _ (by rw [eP];decide)) (by decide)) (fun i hi=>(dz i (by omega)).1) (fun i hi=>(dz i (by omega)).2.1) (fun i hi=>df (pJ _ (by rw [eP];omega)) (by decide)) (fun i hi=>(dz i (by omega)).2.2.1) (fun i hi=>(dz i (by omega)).2.2.2) 10 (Nat.le_refl _)
 obtain⟨r,hr,hb⟩:=hb
 refine⟨r,?_,hb⟩
 unfold bC
 rw [if_neg (by rw [eP];decide),eP];exact hr
theorem pK {N:Nat} (h0:N≠0) (h:N<9007199254740992):lnM N≤4611686018427387904:=by
 obtain⟨a,b⟩:=iM h0 h
 unfold lnM
 split<;>omega
theorem yQ {k:Int} (h1: -2000≤k) (h2:k≤2000):Bd (fi k) (fi 2000):=by
 obtain⟨K,hK⟩:∃ K,K=1074:=⟨_,rfl⟩
 obtain⟨v1,n1,_,l1⟩:=gZ (m:=k) hK (by omega) (by omega)
 obtain⟨v2,_,_,_⟩:=gZ (m:=2000) hK (by decide) (by decide)
 have p:(0:Int)≤((2^K:Nat):Int):=Int.natCast_nonneg _
 refine⟨n1,l1,?_,?_⟩
 ·rw [v1,v2,← Int.neg_mul];exact Int.mul_le_mul_of_nonneg_right (by omega) p
 ·rw [v1,v2];exact Int.mul_le_mul_of_nonneg_right h2 p
theorem bt (x:Nat) (h:decide (x % 9223372036854775808<9218868437227405312)=true):ab x:=by unfold ab;exact of_decide_eq_true h
theorem rk {N a b hi lo:Nat} {k:Int} (h0:N≠0) (h:N<9007199254740992) (hk: -2000≤k∧k≤2000) (q1:floatBits .sub .f64 (lnM N) 4607182418800017408=some a) (q2:floatBits .add .f64 (lnM N) 4607182418800017408=some b) (q8:floatBits .mul .f64 (fi k) 4604418534311723008=some hi) (q9:floatBits .mul .f64 (fi k) 4461442080421002358=some lo):∃ y,lnO a b hi lo=some y∧ab y:=by
 have hm:Bd (lnM N) 4611686018427387904:=df (pK h0 h) (by decide)
 have ho:Bd 4607182418800017408 4607182418800017408:=df (Nat.le_refl _) (by decide)
 have n1:ab 4607182418800017408:=bt _ (by decide)
 have n2:ab 4611686018427387904:=bt _ (by decide)
 have n3:ab 4613937818241073152:=bt _ (by decide)
 obtain⟨a',ea,ba⟩:=xU (c:=4613937818241073152) hm ho n2 n1 n3 (by decide+kernel)
 obtain rfl:=Option.some.inj (ea.symm.trans q1)
 obtain⟨b',eb,bb⟩:=lh (c:=4613937818241073152) hm ho n2 n1 n3 (by decide+kernel)
 obtain rfl:=Option.some.inj (eb.symm.trans q2)
 have v0:vI 0=0:=by decide+kernel
 have n0:ab 0:=by unfold ab;decide
 have m0:0≤vI (lnM N):=by
  have r1:=(ek (r:=lnM N) (by have:=pK h0 h;omega)).1
  have:=(aX n0 hm.num (by decide) hm.lt).1 (by rw [r1,show aa ((0:Nat):Int)=0 by decide];omega)
  rw [v0] at this;exact this
 have hone:floatBits .add .f64 0 4607182418800017408=some 4607182418800017408:=by decide+kernel
 have b1:vI 4607182418800017408≤vI b':=by
  obtain⟨r,e,kr⟩:=cr n0 n1
  rw [hone] at e
  obtain rfl:=Option.some.inj e
  have kb:=dy (cr hm.num n1) q2
  refine (aX n1 bb.num (by decide) bb.lt).1 ?_
  rw [kr.1,kb.1]
  exact cq _ (by rw [v0];omega)
 have one0:0<vI 4607182418800017408:=by
  have:=(gk n0 n1 (by decide) (by decide)).1 (by decide)
  rw [v0] at this;exact this
 obtain⟨s,es,bs⟩:=xW (c:=4613937818241073152) ba bb.num b1 one0 n3 n1 n3 (by decide+kernel)
 obtain⟨s2,es2,bs2⟩:=fF (c:=4618441417868443648) (df (x:=4611686018427387904) (Nat.le_refl _) (by decide)) bs n2 n3 (bt _ (by decide)) (by decide+kernel)
 obtain⟨z,ez,bz⟩:=fF (c:=4621256167635550208) bs bs n3 n3 (bt _ (by decide)) (by decide+kernel)
 obtain⟨hh,eh,bh⟩:=wP bz
 obtain⟨v,ev,bv⟩:=fF (c:=fi ((6*nineN 10:Nat):Int)) bs2 bh (bt _ (by decide)) (dz 10 (by decide)).1 (bt _ (by decide+kernel)) (by decide+kernel)
 have bk:=yQ hk.1 hk.2
 have nk:ab (fi 2000):=bt _ (by decide+kernel)
 obtain⟨hi',ehi,bhi⟩:=fF (c:=fi 2000) bk (df (x:=4604418534311723008) (c:=4607182418800017408) (by decide) (by decide)) nk n1 nk (by decide+kernel)
 obtain rfl:=Option.some.inj (ehi.symm.trans q8)
 obtain⟨lo',elo,blo⟩:=fF (c:=fi 2000) bk (df (x:=4461442080421002358) (c:=4607182418800017408) (by decide) (by decide)) nk n1 nk (by decide+kernel)
 obtain rfl:=Option.some.inj (elo.symm.trans q9)
 obtain⟨c,ec,bc⟩:=lh (c:=fi ((6*nineN 10+2000:Nat):Int)) bv blo (bt _ (by decide+kernel)) nk (bt _ (by decide+kernel)) (by decide+kernel)
 obtain⟨y,ey,by'⟩:=lh (c:=fi ((6*nineN 10+4000:Nat):Int)) bhi bc nk (bt _ (by decide+kernel)) (bt _ (by decide+kernel)) (by decide+kernel)
 refine⟨y,?_,by'.num⟩
 unfold lnO
 rw [es,show opO .mul (some 4611686018427387904) (some s)=_ from es2,show opO .mul (some s) (some s)=_ from ez,show ((some z).bind fun z=>bC lnL z)=_ from eh,show opO .mul (some s2) (some hh)=_ from ev,show opO .add (some v) (some lo')=_ from ec]
 exact ey
end Go.Proofs.YtbokkedmfolfdaaGreat
namespace Go.Proofs.YtbokkedmfolfdaaGreat
open Go.RowKit

end Go.Proofs.YtbokkedmfolfdaaGreat
