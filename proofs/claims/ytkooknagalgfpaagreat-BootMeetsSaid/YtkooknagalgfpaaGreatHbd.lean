/-  -/
import Derived.Test.YtkooknagalgfpaaGreatHbc
import Derived.Test.YtkooknagalgfpaaGreatHav
import Derived.Deep.RegionHeld3
import Derived.Test.YtkooknagalgfpaaGreatHat
import Derived.Test.YtkooknagalgfpaaGreatHau
import Derived.Test.YtkooknagalgfpaaGreatHaw
namespace Go.Proofs.YtkooknagalgfpaaGreat
open Go.RowKit

theorem uU {c:Nat} (h:c<9223372036854775808):c^^^9223372036854775808=9223372036854775808+c:=by
 rw [show (9223372036854775808:Nat)=2^63 from rfl] at *
 apply Nat.eq_of_testBit_eq
 intro i
 rw [Nat.testBit_xor,Nat.testBit_two_pow]
 by_cases h1:i=63
 ·subst h1
  rw [Nat.testBit_two_pow_add_eq]
  simp
 ·by_cases h2:i<63
  ·have e:decide (63=i)=false:=by rw [decide_eq_false_iff_not];omega
   rw [Nat.testBit_two_pow_add_gt h2,e,Bool.xor_false]
  ·have h3:c.testBit i=false:=Nat.testBit_lt_two_pow (Nat.lt_of_lt_of_le h (Nat.pow_le_pow_right (by decide) (by omega)))
   have h4:(2^63+c).testBit i=false:=Nat.testBit_lt_two_pow (Nat.lt_of_lt_of_le (show 2^63+c<2^64 by omega) (Nat.pow_le_pow_right (by decide) (by omega)))
   have e:decide (63=i)=false:=by rw [decide_eq_false_iff_not];omega
   rw [h3,h4,e];rfl
def flipN (x:Nat):Nat:=if x<9223372036854775808 then 9223372036854775808+x else x - 9223372036854775808
theorem Ez {b:Nat} (h:b<18446744073709551616):b^^^9223372036854775808=flipN b:=by
 unfold flipN
 by_cases h1:b<9223372036854775808
 ·rw [if_pos h1,uU h1]
 ·rw [if_neg h1]
  obtain⟨c,rfl⟩:∃ c,b=9223372036854775808+c:=⟨b - 9223372036854775808,by omega⟩
  rw [← uU (c:=c) (by omega),Nat.xor_assoc,Nat.xor_self,Nat.xor_zero]
  have:=uU (c:=c) (by omega)
  omega
theorem ia {x:Nat} (h:x<18446744073709551616):flipN x<18446744073709551616∧flipN x % 9223372036854775808=x % 9223372036854775808∧(flipN x / 9223372036854775808 % 2==1)=!(x / 9223372036854775808 % 2==1):=by
 unfold flipN
 by_cases h1:x<9223372036854775808
 ·rw [if_pos h1]
  refine⟨by omega,by omega,?_⟩
  rw [show (9223372036854775808+x) / 9223372036854775808=1 by omega,show x / 9223372036854775808=0 by omega];rfl
 ·rw [if_neg h1]
  refine⟨by omega,by omega,?_⟩
  rw [show (x - 9223372036854775808) / 9223372036854775808=0 by omega,show x / 9223372036854775808=1 by omega];rfl
theorem xY {x y:Nat} (h:y<18446744073709551616) (hn:af (y:Int)=false):floatBits .add .f64 x (flipN y)=floatBits .sub .f64 x y:=by
 obtain⟨_,h2,h3⟩:=ia h
 have hl:=eC hn
 have e:Ieee.double.read (flipN y)=(Ieee.double.read y).opposite:=by
  by_cases hy:y % 9223372036854775808<9218868437227405312
  ·rw [ap (b:=flipN y) (by rw [h2];exact hy),ap hy,h2,h3];rfl
  ·rw [aM (b:=flipN y) (by rw [h2];omega),aM (b:=y) (by omega),h3];rfl
 show ((Ieee.double.read x).sum (Ieee.double.read (flipN y))).map Ieee.double.write=((Ieee.double.read x).sum (Ieee.double.read y).opposite).map Ieee.double.write
 rw [e]

set_option maxHeartbeats 400000 in
theorem qj (y:Nat) (v z:Int) (w:World) (hv:Hid (v=(y:Int))) (h:U64 v) (hz:Hid (z=(flipN y:Int))) :
  Calls Tryz.prog 70 #[.int .u64 v] w fun e w'=>e=.returned (.int .u64 z)∧w=w':=by
 have hb:bits .xor .u64 v 9223372036854775808=z:=by
  have hy:y<18446744073709551616:=by have:=h.2;rw [hv.out] at this;omega
  have:=bits_xor_u64_nat y 9223372036854775808 hy (by decide)
  rw [show ((9223372036854775808:Nat):Int)=9223372036854775808 from rfl,Ez hy] at this
  rw [hv.out,hz.out];exact this
 go_enter Tryz.func70,Tryz.ntmps70
 go_wp2
 go_ret
 exact⟨rfl,rfl⟩

set_option maxHeartbeats 400000 in
theorem AU (x y:Nat) (u v:Int) (w:World) (hu:Hid (u=(x:Int))) (hv:Hid (v=(y:Int))) (h:U64 u) (h':U64 v) :
  Calls Tryz.prog 36 #[.int .u64 u,.int .u64 v] w fun e w'=>e=.returned (.int .u64 (cn (floatBits .sub .f64 x y):Int))∧Below w.heap.size w w':=by
 have hy64:y<18446744073709551616:=by have:=h'.2;rw [hv.out] at this;omega
 obtain⟨res,hres⟩:∃ res:Int,(cn (floatBits .sub .f64 x y):Int)=res:=⟨_,rfl⟩
 rw [hres]
 have HN:=hideS (aj v · h')
 cases hn:af v with
 | true=>
  rw [hn] at HN
  have HE:Hid ((9221120237041090561:Int)=res):=by show _=_;rw [← hres,eG (by rw [← hv.out];exact hn)];rfl
  clear h h' hn hres
  go_enter Tryz.func36,Tryz.ntmps36
  go_wp2_with fail
  refine (turned (HN.out _)).mono ?_
  rintro e w' ⟨rfl,rfl⟩
  go_wp2_with fail
  go_ret
  exact⟨ck HE.out,Below.refl _ _⟩
 | false=>
  rw [hn] at HN
  obtain⟨z,hz⟩:∃ z:Int,z=(flipN y:Int):=⟨_,rfl⟩
  have HF:=hideS fun w=>qj y v z w hv h' hz
  have HA:Hid (∀ w,Calls Tryz.prog 38 #[.int .u64 u,.int .u64 z] w fun e w'=>e=.returned (.int .u64 res)∧Below w.heap.size w w'):=fun w=>by
   have:=hU x (flipN y) u z w hu hz h (by rw [hz];exact an (ia hy64).1)
   rw [xY hy64 (by rw [← hv.out];exact hn),hres] at this;exact this
  clear h h' hn hres hz
  go_enter Tryz.func36,Tryz.ntmps36
  go_wp2_with fail
  refine (turned (HN.out _)).mono ?_
  rintro e w' ⟨rfl,rfl⟩
  go_wp2_with fail
  refine (HF.out _).mono ?_
  rintro e w' ⟨rfl,rfl⟩
  go_wp2_with fail
  refine (HA.out _).mono ?_
  rintro e w1 ⟨rfl,hb⟩
  have HB:=hideS hb
  clear hb
  go_wp2_with fail
  go_ret
  exact⟨rfl,HB.out⟩

theorem IM (n:Int):bZ (decide (n<0)) n.natAbs 0 false=(fi n:Int):=by
 unfold fi aF
 by_cases hz:n=0
 ·subst hz;rw [if_pos rfl];rfl
 ·rw [if_neg hz,gj _ _ (by omega)]
  by_cases hn:n<0
  ·rw [if_pos hn,decide_eq_true hn];simp only [if_true];omega
  ·rw [if_neg hn,decide_eq_false hn];simp

set_option maxHeartbeats 400000 in
theorem kl (n:Int) (w:World) (h0: -9223372036854775808≤n) (h1:n≤9223372036854775807) :
  Calls Tryz.prog 171 #[.int .i64 n] w fun e w'=>e=.returned (.int .u64 (fi n:Int))∧Below w.heap.size w w':=by
 obtain⟨res,hres⟩:∃ res:Int,(fi n:Int)=res:=⟨_,rfl⟩
 rw [hres]
 rw [← IM] at hres
 obtain⟨ng,hng⟩:∃ ng,decide (n<0)=ng:=⟨_,rfl⟩
 have HW:Hid (∀ w,Calls Tryz.prog 75 #[.int .i64 n] w fun x w'=>∃ v,x=.returned (.agg #[.bool ng,v,.int .i64 0])∧DN w' v n.natAbs∧Below w.heap.size w w'):=fun w=>by rw [← hng];exact Ee n w h0 h1
 rw [hng] at hres
 have HRes:=hideS hres
 have hnd:nd n.natAbs≤1000000:=Nat.le_trans (dL (k:=2) (by omega)) (by omega)
 clear hng hres
 go_enter Tryz.func171,Tryz.ntmps171
 go_wp2_with fail
 refine (HW.out _).mono ?_
 rintro x w1 ⟨v1,rfl,hd1,hb1⟩
 obtain⟨p,l,c,rfl⟩:=hd1.shape
 have HB:=hideS hb1
 have HNr:=hideS (iL ng _ 0 n.natAbs w1 hd1 hnd (by omega) (by omega))
 rw [HRes.out] at HNr
 clear hd1 hb1
 go_wp2_with fail
 refine HNr.out.mono ?_
 rintro x w2 ⟨rfl,hb2⟩
 have HB2:=hideS (HB.out.trans (hb2.mono HB.out.size))
 clear hb2
 go_wp2_with fail
 go_ret
 exact⟨rfl,HB2.out⟩

set_option maxHeartbeats 400000 in
theorem gp (u v:Int) (b:Bool) (w:World) (h:U64 u) (h':U64 v) (hn:af u=false) (hn':af v=false) (hb:decide (aa u<aa v)=b) :
  Calls Tryz.prog 65 #[.int .u64 u,.int .u64 v] w fun e w'=>e=.returned (.bool b)∧w=w':=by
 have H1:=hideS fun w=>turned (nh u w h)
 have H2:=hideS fun w=>turned (nh v w h')
 rw [hn] at H1
 rw [hn'] at H2
 generalize aa u=a at *
 generalize aa v=c at *
 clear hn hn' h h'
 go_enter Tryz.func65,Tryz.ntmps65
 go_wp2_with fail
 refine (H1.out _).mono ?_
 rintro e w' ⟨rfl,rfl⟩
 go_wp2_with fail
 refine (H2.out _).mono ?_
 rintro e w' ⟨rfl,rfl⟩
 go_wp2_with fail
 go_ret
 exact⟨rfl,rfl⟩

theorem lA {S k F E:Int} (hE:0<E) (h1:k*E≤S) (h2:S<(k+1)*E) (h3:F*E≤S) (h4:S<(F+1)*E):k=F:=by
 have a:k<F+1:=by
  by_cases c:k<F+1
  ·exact c
  ·have:=Int.mul_le_mul_of_nonneg_right (show F+1≤k by omega) (show 0≤E by omega);omega
 have b:F<k+1:=by
  by_cases c:F<k+1
  ·exact c
  ·have:=Int.mul_le_mul_of_nonneg_right (show k+1≤F by omega) (show 0≤E by omega);omega
 omega
def uW (neg:Bool) (q:Nat) (lost:Bool):Int:=if neg then (if lost then -(q:Int) - 1 else -(q:Int)) else (q:Int)
theorem uX {neg:Bool} {N P:Nat} (hP:0<P):uW neg (N / P) (decide (N % P≠0))*(P:Int)≤sg neg N∧sg neg N<(uW neg (N / P) (decide (N % P≠0))+1)*(P:Int):=by
 have h1:=Nat.div_add_mod N P
 have h2:N % P<P:=Nat.mod_lt _ hP
 have h3:((P*(N / P):Nat):Int)=(N / P:Nat)*(P:Int):=by rw [Int.natCast_mul,Int.mul_comm]
 generalize N / P=q at *
 generalize N % P=r at *
 generalize P*q=t at *
 unfold uW sg
 cases neg
 ·simp only [Bool.false_eq_true,if_false]
  rw [Int.add_mul,Int.one_mul];omega
 ·simp only [if_true]
  by_cases hr:r=0
  ·rw [show decide (r≠0)=false by simpa using hr]
   simp only [Bool.false_eq_true,if_false]
   rw [Int.add_mul,Int.one_mul,Int.neg_mul];omega
  ·rw [show decide (r≠0)=true by simpa using hr]
   simp only [if_true]
   rw [Int.add_mul,Int.one_mul,Int.sub_mul,Int.one_mul,Int.neg_mul];omega

set_option maxHeartbeats 1600000 in
theorem xZ (t:Nat) (v k:Int) (K:Nat) (w:World) (hv:Hid (v=(t:Int))) (h:U64 v) (ht:ah t) (hK:K=1074) (h1:k*((2^K:Nat):Int)≤vI t) (h2:vI t<(k+1)*((2^K:Nat):Int)) (k1: -2000≤k) (k2:k≤2000) :
  Calls Tryz.prog 174 #[.int .u64 v] w fun e w'=>e=.returned (.int .i64 k)∧Below w.heap.size w w':=by
 have HO:=hideS fun w=>gL t v w hv h ht
 have HF:Hid (∀ neg N e,OfR t neg N e→(N=0→k=0)∧(N≠0→∃ P:Nat,e= -(P:Int)∧1≤P∧P≤1074∧k=uW neg (N / 2^P) (decide (N % 2^P≠0)))):=fun neg N e ho=>by
  have hp:(0:Int)<((2^K:Nat):Int):=by have:=Nat.two_pow_pos K;omega
  have hval:vI t=sg neg N*((2^(e+1074).toNat:Nat):Int):=by
   rw [xR,← ho.val,qd]
   by_cases h0:N=0
   ·rw [h0,cg,cg]
   ·rw [ho.sgn h0]
  constructor
  ·intro h0
   rw [h0,cg,Int.zero_mul] at hval
   rw [hval] at h1 h2
   exact lA hp h1 h2 (by rw [Int.zero_mul];exact Int.le_refl _) (by rw [Int.zero_add,Int.one_mul];exact hp)
  ·intro h0
   have hlo:=ho.lo
   have hneg:e<0:=by
    obtain⟨m1,m2⟩:=ho.mag h0
    by_cases c:e<0
    ·exact c
    ·exfalso
     have hpl:1074≤pl (t % 9223372036854775808):=by omega
     have hmg:4503599627370496≤N:=by rw [m1];exact Cm (by unfold pl at hpl;omega)
     have hb:(vI t).natAbs=N*2^(e+1074).toNat:=by rw [hval,Int.natAbs_mul,fE,Int.natAbs_natCast]
     have hp2:2^K≤2^(e+1074).toNat:=Nat.pow_le_pow_right (by decide) (by omega)
     have h5:4503599627370496*2^K≤N*2^(e+1074).toNat:=Nat.mul_le_mul hmg hp2
     have h6:=Int.mul_le_mul_of_nonneg_right k1 (show 0≤((2^K:Nat):Int) by omega)
     have h7:=Int.mul_le_mul_of_nonneg_right (show k+1≤2001 by omega) (show 0≤((2^K:Nat):Int) by omega)
     generalize N*2^(e+1074).toNat=a at *
     generalize 2^K=b at *
     generalize (k+1)*(b:Int)=c1 at *
     generalize k*(b:Int)=c2 at *
     omega
   refine⟨(-e).toNat,by omega,by omega,by omega,?_⟩
   have hpe:(2^K:Nat)=2^(-e).toNat*2^(e+1074).toNat:=by rw [← Nat.pow_add];congr 1;omega
   have hq:(0:Int)<((2^(e+1074).toNat:Nat):Int):=by have:=Nat.two_pow_pos (e+1074).toNat;omega
   have hP:0<2^(-e).toNat:=Nat.two_pow_pos _
   rw [hpe,Int.natCast_mul,← Int.mul_assoc,hval] at h1 h2
   obtain⟨f1,f2⟩:=uX (neg:=neg) (N:=N) hP
   exact lA (by omega) (Int.le_of_mul_le_mul_right h1 hq) (Int.lt_of_mul_lt_mul_right h2 (by omega)) f1 f2
 clear h ht h1 h2
 go_enter Tryz.func174,Tryz.ntmps174
 go_wp2_with fail
 refine (HO.out _).mono ?_
 rintro r w1 ⟨neg,vx,N,e,rfl,hdx,hX,hb1⟩
 obtain⟨p,l,c,rfl⟩:=hdx.shape
 obtain⟨g1,g2⟩:=HF.out neg N e hX
 have HBox:=hideS (aJ w1 neg (.slice p l c) e)
 have HDb:=hideS (hdx.below HBox.out)
 have HB1:=hideS (hb1.trans (HBox.out.mono hb1.size))
 have HNl:=hideS hX.lt
 clear hX hdx hb1 HO HF
 go_wp2_with fail
 by_cases h0:N=0
 ·have hk:=g1 h0
  clear g1 g2
  refine (aY _ _ _ N true _ HDb.out (decide_eq_true h0)).mono ?_
  rintro r w2 ⟨rfl,hb2⟩
  have HB2:=hideS (HB1.out.trans (hb2.mono HB1.out.size))
  have HK:=hideS hk
  clear hb2 hk h0
  go_wp2_with fail
  go_ret
  exact⟨ck HK.out.symm,HB2.out⟩
 ·obtain⟨P,hP,hP1,hP2,hk⟩:=g2 h0
  clear g1 g2
  have hQl:N / 2^P<9007199254740992:=Nat.lt_of_le_of_lt (Nat.div_le_self _ _) HNl.out
  refine (aY _ _ _ N false _ HDb.out (decide_eq_false h0)).mono ?_
  rintro r w2 ⟨rfl,hb2⟩
  obtain⟨c0,c1,c2⟩:=jo hb2
  have hz2:w1.heap.size<w2.heap.size:=by have:=hb2.size;simp at this;omega
  have HB2:=hideS (HB1.out.trans (hb2.mono HB1.out.size))
  have he:e<0:=by omega
  have he2: -1074≤e:=by omega
  have HPe:Hid (-e=(P:Int)):=by show _=_;omega
  have HSh:=hideS (gJ (.slice p l c) N P (-e) w2 (HDb.out.below hb2) (by have:=fK HNl.out;omega) HPe)
  have h3:=gH (K:=N / 2^P) (by omega)
  have b0:=bn (N / 2^P) 0
  have b1:dgt (N / 2^P) 1≤2097152:=by omega
  obtain⟨q0,hq0⟩:∃ q0:Int,(dgt (N / 2^P) 0:Int)=q0:=⟨_,rfl⟩
  obtain⟨q1,hq1⟩:∃ q1:Int,(dgt (N / 2^P) 1:Int)=q1:=⟨_,rfl⟩
  obtain⟨Q,hQ⟩:∃ Q:Int,((N / 2^P:Nat):Int)=Q:=⟨_,rfl⟩
  have hsum:q0+q1*4294967296=Q:=by omega
  have d0:0≤q0∧q0<4294967296:=by omega
  have d1:0≤q1∧q1≤2097152:=by omega
  have hQ0:0≤Q∧Q<9007199254740992:=by omega
  have HK:Hid (k=if neg then (if bQ N P then -Q - 1 else -Q) else Q):=by
   show _=_
   rw [← hQ];exact hk
  have HD0:=hideS hq0
  have HD1:=hideS hq1
  clear hb2 hk h0 hP hP1 hP2 h3 b0 b1 hq0 hq1 hQ hQl HPe
  obtain⟨d0a,d0b⟩:=d0
  obtain⟨d1a,d1b⟩:=d1
  obtain⟨hQa,hQb⟩:=hQ0
  go_wp2_with fail
  refine HSh.out.mono ?_
  rintro r w3 ⟨v3,rfl,hd3,hb3⟩
  have HB3:=hideS (HB2.out.trans (hb3.mono HB2.out.size))
  have e0:w3.cell? ⟨w1.heap.size,0,none⟩=some (.bool neg):=(hb3.cell (p:=⟨w1.heap.size,0,none⟩) hz2).trans c0
  have HD3:=hideS hd3
  clear hb3 hd3 c0 c1 c2 HSh
  generalize bQ N P=lost at HK ⊢
  go_wp2_with fail
  refine (turned (eQ v3 (N / 2^P) 0 0 q0 _ HD3.out rfl HD0)).mono ?_
  rintro r w' ⟨rfl,rfl⟩
  go_wp2_with fail
  refine (turned (eQ v3 (N / 2^P) 1 1 q1 _ HD3.out rfl HD1)).mono ?_
  rintro r w' ⟨rfl,rfl⟩
  clear HD3 HD0 HD1
  cases neg<;>cases lost
  all_goals
   go_wp2_with fail
   go_ret
   exact⟨ck HK.out.symm,HB3.out⟩
end Go.Proofs.YtkooknagalgfpaaGreat
namespace Go.Proofs.YtkooknagalgfpaaGreat
open Go.RowKit

def km (x y:Nat):Nat:=cn (floatBits .add .f64 x y)
def ql (x y:Nat):Nat:=cn (floatBits .sub .f64 x y)
def sj (x y:Nat):Nat:=cn (floatBits .mul .f64 x y)
def dx (x y:Nat):Nat:=cn (floatBits .quo .f64 x y)
theorem bJ {x:Nat} (h:x<18446744073709551616):U64 (x:Nat):=⟨by omega,by omega⟩
theorem tl {n:Int} (h0: -9007199254740992≤n) (h1:n≤9007199254740992):fi n<18446744073709551616:=(ni rfl h0 h1).2.2.2
def aQ (xs:List Int) (ys:List Nat) (k:Nat):Nat:=dx (ql (ys.getD (k+1) 0) (ys.getD k 0)) (fi (xs.getD (k+1) 0 - xs.getD k 0))
end Go.Proofs.YtkooknagalgfpaaGreat
namespace Go.Proofs.YtkooknagalgfpaaGreat
open Go.RowKit

end Go.Proofs.YtkooknagalgfpaaGreat
namespace Go.Proofs.YtkooknagalgfpaaGreat
open Go.RowKit

def overG (N:Int) (d:Nat):Nat:=if N=0 then 0 else wrd (decide (N<0)) (nearR (aR N.natAbs d 0) (-2149))
def fL (N:Int) (d:Nat):Int:=if N=0 then 0 else if N<0 then -(nearR (aR N.natAbs d 0) (-2149):Int) else (nearR (aR N.natAbs d 0) (-2149):Int)
theorem qv (M:Nat) (p:Int):nearR M p≤9218868437227405312:=by
 rw [jT];omega
theorem EN (s:Bool) {r:Nat} (h:r≤9218868437227405312):U64 (wrd s r:Nat)∧af (wrd s r:Nat)=false∧aa (wrd s r:Nat)=if s then -(r:Int) else (r:Int):=by
 have hn:af (wrd s r:Nat)=false:=by
  unfold af szI wrd
  rw [decide_eq_false_iff_not]
  cases s<;>simp<;>omega
 refine⟨by unfold U64 wrd;cases s<;>simp<;>omega,hn,?_⟩
 unfold aa
 rw [hn,if_neg (by decide)]
 unfold sgB szI wrd
 cases s
 ·have:¬ (9223372036854775808:Int)≤(r:Int):=by omega
  simp [this]
  omega
 ·simp
  omega
theorem cK (N:Int) (d:Nat):U64 (overG N d:Nat)∧af (overG N d:Nat)=false∧aa (overG N d:Nat)=fL N d:=by
 unfold overG fL
 by_cases h0:N=0
 ·rw [if_pos h0,if_pos h0]
  exact⟨by unfold U64;decide,by decide,by decide⟩
 ·rw [if_neg h0,if_neg h0]
  obtain⟨a,b,c⟩:=EN (decide (N<0)) (qv (aR N.natAbs d 0) (-2149))
  refine⟨a,b,?_⟩
  rw [c]
  by_cases hn:N<0<;>simp [hn]
theorem qw {X X' Y k:Nat} (h:X≤X'):aR X Y k≤aR X' Y k:=by
 have h1:X*2^k≤X'*2^k:=Nat.mul_le_mul_right _ h
 unfold aR
 generalize X*2^k=A at *
 generalize X'*2^k=B at *
 have h2:A / Y≤B / Y:=Nat.div_le_div_right h1
 have ea:=Nat.div_add_mod A Y
 have eb:=Nat.div_add_mod B Y
 by_cases hq:A / Y=B / Y
 ·rw [hq] at ea ⊢
  have:A % Y≤B % Y:=by omega
  split<;>split<;>omega
 ·split<;>split<;>omega
theorem tu {N N':Int} (d:Nat) (h:N≤N'):fL N d≤fL N' d:=by
 unfold fL
 by_cases h1:N'<0
 ·have:=bS (-2149) (qw (Y:=d) (k:=0) (show N'.natAbs≤N.natAbs by omega))
  rw [if_neg (by omega),if_pos (by omega),if_neg (by omega),if_pos h1]
  omega
 ·by_cases h2:0<N
  ·have:=bS (-2149) (qw (Y:=d) (k:=0) (show N.natAbs≤N'.natAbs by omega))
   rw [if_neg (by omega),if_neg (by omega),if_neg (by omega),if_neg (by omega)]
   omega
  ·(repeat' split)<;>omega
theorem Jf (N:Int) (d:Nat):fL (-N) d= -fL N d:=by
 unfold fL
 by_cases h0:N=0
 ·rw [if_pos h0,if_pos (by omega)];rfl
 ·rw [if_neg h0,if_neg (by omega),Int.natAbs_neg]
  by_cases hn:N<0
  ·rw [if_pos hn,if_neg (by omega)];omega
  ·rw [if_neg hn,if_pos (by omega)]
theorem CK {r d K:Nat} (hK:K=1074) (hr:r<9218868437227405312) (hd:0<d):fL (((V r*2^K*d:Nat)):Int) d=r:=by
 unfold fL
 by_cases h0:V r*2^K*d=0
 ·rw [h0,if_pos (show ((0:Nat):Int)=0 from rfl)]
  have h1:V r=0:=by
   have hp:=Nat.two_pow_pos K
   rcases Nat.mul_eq_zero.1 h0 with c | c
   ·rcases Nat.mul_eq_zero.1 c with c | c<;>omega
   ·omega
  have:V r=V 0:=by rw [h1,bC]
  rw [fS] at this
  rw [this];rfl
 ·rw [if_neg (by omega),if_neg (by omega),Int.natAbs_natCast]
  have e:aR (V r*2^K*d) d 0=V r*2^(K+1):=by
   unfold aR
   rw [Nat.pow_zero,Nat.mul_one,Nat.mul_div_cancel _ hd,Nat.mul_mod_left,if_pos rfl,Nat.pow_succ,Nat.add_zero]
   generalize V r=a
   generalize 2^K=b
   rw [Nat.mul_comm 2,Nat.mul_assoc]
  rw [e]
  have:=kH hr (K+1)
  rw [show (-1074:Int) - ((K+1:Nat):Int)= -2149 by omega] at this
  rw [this]
def uI (K:Nat) (y:Nat):Int:=vI y*((2^K:Nat):Int)
theorem vI_rank {y:Nat} (h64:y<18446744073709551616) (hy:ah y):(0≤aa (y:Nat)∧vI y=(V (y % 9223372036854775808):Int)∧aa (y:Nat)=((y % 9223372036854775808:Nat):Int))∨(aa (y:Nat)≤0∧vI y= -(V (y % 9223372036854775808):Int)∧aa (y:Nat)= -((y % 9223372036854775808:Nat):Int)):=by
 unfold ah at hy
 have hn:af (y:Nat)=false:=by unfold af szI;rw [decide_eq_false_iff_not];omega
 unfold aa vI
 rw [hn,if_neg (by decide)]
 unfold sgB szI
 by_cases hs:y<9223372036854775808
 ·left
  have h1:¬ (9223372036854775808:Int)≤(y:Int):=by omega
  have h2:y / 9223372036854775808 % 2=0:=by omega
  rw [h2]
  simp only [h1,decide_false,Bool.false_eq_true,if_false,show ((0:Nat)==1)=false from rfl]
  exact⟨by omega,trivial,by omega⟩
 ·right
  have h1:(9223372036854775808:Int)≤(y:Int):=by omega
  have h2:y / 9223372036854775808 % 2=1:=by omega
  rw [h2]
  simp only [h1,decide_true,if_true,beq_self_eq_true]
  exact⟨by omega,trivial,by omega⟩
theorem yr {y d K:Nat} (hK:K=1074) (h64:y<18446744073709551616) (hy:ah y) (hd:0<d):fL (uI K y*(d:Int)) d=aa (y:Nat):=by
 unfold ah at hy
 rcases vI_rank h64 hy with⟨_,hv,hr⟩| ⟨_,hv,hr⟩
 ·unfold uI
  rw [hv,hr,← CK (r:=y % 9223372036854775808) hK (by omega) hd]
  simp only [Int.natCast_mul]
 ·unfold uI
  rw [hv,hr,← CK (r:=y % 9223372036854775808) hK (by omega) hd,Int.neg_mul,Int.neg_mul,Jf]
  simp only [Int.natCast_mul]
theorem CL {y d K:Nat} {N:Int} (hK:K=1074) (h64:y<18446744073709551616) (hy:ah y) (hd:0<d) (h:uI K y*(d:Int)≤N):aa (y:Nat)≤fL N d:=by
 rw [← yr hK h64 hy hd];exact tu d h
theorem CM {y d K:Nat} {N:Int} (hK:K=1074) (h64:y<18446744073709551616) (hy:ah y) (hd:0<d) (h:N≤uI K y*(d:Int)):fL N d≤aa (y:Nat):=by
 rw [← yr hK h64 hy hd];exact tu d h
theorem nK {x y:Nat} (K:Nat) (hx:x<18446744073709551616) (hxn:ah x) (hy:y<18446744073709551616) (hyn:ah y) (h:aa (x:Nat)≤aa (y:Nat)):uI K x≤uI K y:=by
 have hp:(0:Int)≤((2^K:Nat):Int):=Int.natCast_nonneg _
 unfold uI
 refine Int.mul_le_mul_of_nonneg_right ?_ hp
 rcases vI_rank hx hxn with⟨a1,a2,a3⟩| ⟨a1,a2,a3⟩ <;>rcases vI_rank hy hyn with⟨b1,b2,b3⟩| ⟨b1,b2,b3⟩
 ·rw [a2,b2];have:=DA (r:=x % 9223372036854775808) (s:=y % 9223372036854775808) (by omega);omega
 ·rw [a2,b2]
  have e1:x % 9223372036854775808=0:=by omega
  have e2:y % 9223372036854775808=0:=by omega
  rw [e1,e2,bC];omega
 ·rw [a2,b2];omega
 ·rw [a2,b2];have:=DA (r:=y % 9223372036854775808) (s:=x % 9223372036854775808) (by omega);omega

def fj (n i u0 u1:Int):Int:=(n - i)*u0+i*u1
theorem Jg {n i u0 u1:Int} (h0:0≤i) (h1:i≤n) (h:u0≤u1):u0*n≤fj n i u0 u1∧fj n i u0 u1≤u1*n:=by
 unfold fj
 have a:i*u0≤i*u1:=Int.mul_le_mul_of_nonneg_left h h0
 have b:(n - i)*u0≤(n - i)*u1:=Int.mul_le_mul_of_nonneg_left h (by omega)
 have e0:(n - i)*u0=n*u0 - i*u0:=Int.sub_mul ..
 have e1:(n - i)*u1=n*u1 - i*u1:=Int.sub_mul ..
 rw [Int.mul_comm u0 n,Int.mul_comm u1 n]
 omega
theorem Jh {n i j u0 u1:Int} (h:u0≤u1) (hij:i≤j):fj n i u0 u1≤fj n j u0 u1:=by
 unfold fj
 have a:(j - i)*u0≤(j - i)*u1:=Int.mul_le_mul_of_nonneg_left h (by omega)
 rw [Int.sub_mul,Int.sub_mul] at a
 rw [Int.sub_mul,Int.sub_mul]
 omega
theorem vh (n i u0 u1:Int):fj n i (-u0) (-u1)= -fj n i u0 u1:=by
 unfold fj
 rw [Int.mul_neg,Int.mul_neg];omega
end Go.Proofs.YtkooknagalgfpaaGreat
namespace Go.Proofs.YtkooknagalgfpaaGreat
open Go.RowKit

def eo (n i u0 u1 u2 u3:Int):Int:=(n - i)*(n - i)*(n - i)*u0+3*(n - i)*(n - i)*i*u1+3*(n - i)*i*i*u2+i*i*i*u3
def wA (n i:Int):Int:=n*n*n - (n - i)*(n - i)*(n - i)
def wB (n i:Int):Int:=i*i*(3*(n - i)+i)
def wC (i:Int):Int:=i*i*i
theorem CN (x:Int):3*x=x+x+x:=by omega
theorem Qu (x:Int):2*x=x+x:=by omega
theorem tv (n i u0 u1 u2 u3:Int):eo n i u0 u1 u2 u3=n*n*n*u0+wA n i*(u1 - u0)+wB n i*(u2 - u1)+wC i*(u3 - u2):=by
 unfold eo wA wB wC
 obtain⟨a,ha⟩:∃ a,n - i=a:=⟨_,rfl⟩
 have hn:n=a+i:=by omega
 rw [ha,hn]
 simp only [CN]
 simp only [Int.mul_add,Int.add_mul,Int.mul_sub,Int.sub_mul,Int.mul_assoc]
 simp only [Int.mul_comm,Int.mul_left_comm]
 omega
theorem CO {i j:Int} (h0:0≤i) (h:i≤j):wC i≤wC j:=by
 unfold wC
 have h1:i*i≤j*j:=Int.mul_le_mul h h h0 (by omega)
 exact Int.mul_le_mul h1 h h0 (Int.mul_nonneg (by omega) (by omega))
theorem MN {n i j:Int} (h:i≤j) (hn:j≤n):wA n i≤wA n j:=by
 unfold wA
 have:=CO (i:=n - j) (j:=n - i) (by omega) (by omega)
 unfold wC at this
 omega
theorem MO (a i t:Int):(i+t)*(i+t)*(3*(a - t)+(i+t)) - i*i*(3*a+i)=t*(3*(i*(2*a - t))+t*(3*a - 2*t)):=by
 simp only [CN,Qu]
 simp only [Int.mul_add,Int.add_mul,Int.mul_sub,Int.mul_assoc]
 simp only [Int.mul_comm,Int.mul_left_comm]
 omega
theorem MP {n i j:Int} (h0:0≤i) (h:i≤j) (hn:j≤n):wB n i≤wB n j:=by
 obtain⟨t,ht⟩:∃ t,j=i+t:=⟨j - i,by omega⟩
 obtain⟨a,ha⟩:∃ a,n - i=a:=⟨_,rfl⟩
 have e:=MO a i t
 unfold wB
 rw [ht,ha,show n - (i+t)=a - t by omega]
 have p1:0≤i*(2*a - t):=Int.mul_nonneg h0 (by omega)
 have p2:0≤t*(3*a - 2*t):=Int.mul_nonneg (by omega) (by omega)
 have p3:0≤t*(3*(i*(2*a - t))+t*(3*a - 2*t)):=Int.mul_nonneg (by omega) (by omega)
 omega
theorem qz {n i j u0 u1 u2 u3:Int} (h0:0≤i) (h:i≤j) (hn:j≤n) (h1:u0≤u1) (h2:u1≤u2) (h3:u2≤u3):eo n i u0 u1 u2 u3≤eo n j u0 u1 u2 u3:=by
 rw [tv,tv]
 have a:=Int.mul_le_mul_of_nonneg_right (MN h hn) (show 0≤u1 - u0 by omega)
 have b:=Int.mul_le_mul_of_nonneg_right (MP h0 h hn) (show 0≤u2 - u1 by omega)
 have c:=Int.mul_le_mul_of_nonneg_right (CO h0 h) (show 0≤u3 - u2 by omega)
 omega
theorem CP (n u0 u1 u2 u3:Int):eo n 0 u0 u1 u2 u3=u0*(n*n*n):=by
 unfold eo
 simp only [Int.sub_zero,Int.mul_zero,Int.zero_mul,Int.add_zero]
 exact Int.mul_comm _ _
theorem CQ (n u0 u1 u2 u3:Int):eo n n u0 u1 u2 u3=u3*(n*n*n):=by
 unfold eo
 simp only [Int.sub_self,Int.mul_zero,Int.zero_mul,Int.zero_add]
 exact Int.mul_comm _ _
theorem Pe {n i u0 u1 u2 u3:Int} (h0:0≤i) (h:i≤n) (h1:u0≤u1) (h2:u1≤u2) (h3:u2≤u3):u0*(n*n*n)≤eo n i u0 u1 u2 u3∧eo n i u0 u1 u2 u3≤u3*(n*n*n):=by
 have a:=qz (n:=n) (Int.le_refl 0) h0 h h1 h2 h3
 have b:=qz (n:=n) h0 h (Int.le_refl n) h1 h2 h3
 rw [CP] at a
 rw [CQ] at b
 exact⟨a,b⟩
theorem CR (n i u0 u1 u2 u3:Int):eo n i (-u0) (-u1) (-u2) (-u3)= -eo n i u0 u1 u2 u3:=by
 unfold eo
 rw [Int.mul_neg,Int.mul_neg,Int.mul_neg,Int.mul_neg];omega
theorem yt {n i j u0 u1 u2 u3:Int} (h0:0≤i) (h:i≤j) (hn:j≤n) (h1:u1≤u0) (h2:u2≤u1) (h3:u3≤u2):eo n j u0 u1 u2 u3≤eo n i u0 u1 u2 u3:=by
 have:=qz (n:=n) (u0:=-u0) (u1:=-u1) (u2:=-u2) (u3:=-u3) h0 h hn (by omega) (by omega) (by omega)
 rw [CR,CR] at this
 omega
theorem Pf {n i u0 u1 u2 u3:Int} (h0:0≤i) (h:i≤n) (h1:u1≤u0) (h2:u2≤u1) (h3:u3≤u2):u3*(n*n*n)≤eo n i u0 u1 u2 u3∧eo n i u0 u1 u2 u3≤u0*(n*n*n):=by
 have a:=yt (n:=n) (Int.le_refl 0) h0 h h1 h2 h3
 have b:=yt (n:=n) h0 h (Int.le_refl n) h1 h2 h3
 rw [CP] at a
 rw [CQ] at b
 exact⟨b,a⟩
theorem Qv {n i j u0 u1:Int} (h:u1≤u0) (hij:i≤j):fj n j u0 u1≤fj n i u0 u1:=by
 have:=Jh (n:=n) (u0:=-u0) (u1:=-u1) (by omega) hij
 rw [vh,vh] at this
 omega
theorem Pg {n i u0 u1:Int} (h0:0≤i) (h1:i≤n) (h:u1≤u0):u1*n≤fj n i u0 u1∧fj n i u0 u1≤u0*n:=by
 have:=Jg (n:=n) (u0:=-u0) (u1:=-u1) h0 h1 (by omega)
 rw [vh,Int.neg_mul,Int.neg_mul] at this
 omega
end Go.Proofs.YtkooknagalgfpaaGreat
namespace Go.Proofs.YtkooknagalgfpaaGreat

theorem MQ {X X' Y k:Nat} (h:X≤X'):aR X Y k≤aR X' Y k:=by
 unfold aR
 have hA:X*2^k≤X'*2^k:=Nat.mul_le_mul_right _ h
 generalize X*2^k=A at *
 generalize X'*2^k=B at *
 have hq:=Nat.div_le_div_right (c:=Y) hA
 have e1:=Nat.div_add_mod A Y
 have e2:=Nat.div_add_mod B Y
 by_cases hc:A / Y=B / Y
 ·rw [hc] at e1 ⊢
  have:A % Y≤B % Y:=by omega
  split<;>split<;>omega
 ·split<;>split<;>omega
theorem EV {X Y Y' k:Nat} (hY:0<Y) (h:Y≤Y'):aR X Y' k≤aR X Y k:=by
 unfold aR
 generalize X*2^k=A
 have hq:=Nat.div_le_div_left (a:=A) h hY
 have e1:=Nat.div_add_mod A Y
 have e2:=Nat.div_add_mod A Y'
 by_cases hc:A / Y'=A / Y
 ·have hm:Y*(A / Y)≤Y'*(A / Y):=Nat.mul_le_mul_right _ h
  rw [hc] at e2 ⊢
  have:A % Y'≤A % Y:=by omega
  split<;>split<;>omega
 ·split<;>split<;>omega
theorem Bg {X Y a b K:Nat} (h:b≤a+K):aR (X*2^a) (Y*2^b) K=aR X Y (a+K - b):=by
 have e:X*2^a*2^K=X*2^(a+K - b)*2^b:=by
  rw [Nat.mul_assoc,← Nat.pow_add,Nat.mul_assoc,← Nat.pow_add,show a+K - b+b=a+K by omega]
 unfold aR
 rw [e,Nat.mul_div_mul_right _ _ (Nat.two_pow_pos b),Nat.mul_mod_mul_right]
 have hp:=Nat.two_pow_pos b
 generalize X*2^(a+K - b) % Y=m
 by_cases hm:m=0
 ·rw [if_pos hm,if_pos (by rw [hm,Nat.zero_mul])]
 ·rw [if_neg hm,if_neg (fun e=>by rcases Nat.mul_eq_zero.1 e with e | e<;>omega)]
def qR (X Y:Nat):Nat:=if X=0 then 0 else nearR (aR X Y 2200) (-2201)
theorem Qw {X X' Y:Nat} (h:X≤X'):qR X Y≤qR X' Y:=by
 unfold qR
 by_cases h0:X=0
 ·rw [if_pos h0];exact Nat.zero_le _
 ·rw [if_neg h0,if_neg (by omega)]
  exact bS _ (MQ h)
theorem MR {X Y Y':Nat} (hY:0<Y) (h:Y≤Y'):qR X Y'≤qR X Y:=by
 unfold qR
 by_cases h0:X=0
 ·rw [if_pos h0,if_pos h0];exact Nat.le_refl _
 ·rw [if_neg h0,if_neg h0]
  exact bS _ (EV hY h)
theorem Jl {r:Nat} (h:r<9218868437227405312):pl r≤2046:=by unfold pl;omega
theorem qA {x y:Nat} (hx:ah x) (hy:ah y) (h1:y % 9223372036854775808≠0):∃ r,floatBits .quo .f64 x y=some r∧RkW r (sgZ (sB x^^sB y) (qR (aV x) (aV y))):=by
 by_cases h0:x % 9223372036854775808=0
 ·refine⟨_,pP h0 hy h1,?_⟩
  have e:aV x=0:=by unfold aV;rw [h0];exact bC
  have e2:qR (aV x) (aV y)=0:=by unfold qR;rw [if_pos e]
  rw [e2]
  exact vl (by omega)
 ·have hpx:=Jl hx
  have hpy:=Jl hy
  have hk:54+(mg (y % 9223372036854775808)).log2 - (mg (x % 9223372036854775808)).log2≤pl (x % 9223372036854775808)+2200 - pl (y % 9223372036854775808):=by
   have:=nf (y % 9223372036854775808)
   have hl:(mg (y % 9223372036854775808)).log2<53:=(Nat.log2_lt (eU h1)).2 (by omega)
   omega
  refine⟨_,jq hx hy h0 h1 rfl rfl rfl rfl hk,?_⟩
  have hz:aV x≠0:=by
   intro e
   exact h0 (li e)
  have e2:qR (aV x) (aV y)=nearR (aR (mg (x % 9223372036854775808)) (mg (y % 9223372036854775808)) (pl (x % 9223372036854775808)+2200 - pl (y % 9223372036854775808))) (-1074+(pl (x % 9223372036854775808):Int) - (-1074+(pl (y % 9223372036854775808):Int)) - 1 - ((pl (x % 9223372036854775808)+2200 - pl (y % 9223372036854775808):Nat):Int)):=by
   unfold qR
   rw [if_neg hz]
   unfold aV V
   rw [Bg (by omega)]
   congr 1
   omega
  rw [e2]
  exact vl (mB _ _)
end Go.Proofs.YtkooknagalgfpaaGreat
namespace Go.Proofs.YtkooknagalgfpaaGreat
open Go.RowKit

theorem JB (k:Nat):jK (k+1)=jK k*max k 1:=rfl
theorem JC {k:Nat}:(k≤1→jK (k+1)=jK k)∧(1<k→jK (k+1)=jK k*k):=by
 rw [JB]
 refine⟨fun h=>?_,fun h=>?_⟩
 ·rw [show max k 1=1 by omega,Nat.mul_one]
 ·rw [show max k 1=k by omega]
theorem expL_len:expL.length=14:=by decide
theorem JD:FitL expL:=by unfold FitL;decide

set_option maxRecDepth 20000 in
set_option maxHeartbeats 1600000 in
theorem Fd (w:World) :
  Calls Tryz.prog 176 #[] w fun e w'=>∃ v,e=.returned v∧OwnF w' w.heap.size 49 uV v expL∧Below w.heap.size w w':=by
 obtain⟨i0,hi,hz0,hz1,hz2⟩:=info_parts infoU
 go_enter Tryz.func176,Tryz.ntmps176
 go_wp2
 go_loopw [1,2,3] (fun v s i wr=>∃ k f:Nat,k≤14∧i=.int .i64 k∧s=.int .i64 f∧Hid (f=jK k)∧Hid (wr.ownsRow w.heap.size 49 1 v k (rowOf uV expL k))∧Hid (Below w.heap.size w wr)) (fun _ _ i _=>14 - (intOf i).toNat)
 case atStart=>exact⟨0,1,Nat.zero_le _,rfl,rfl,rfl,World.ownsRow_nil _ _ _ _,Below.refl _ _⟩
 case round=>
  obtain⟨k,f,hk,rfl,rfl,HF,hown,HB⟩:=hrel
  by_cases hlt:k<14
  ·have hx:k<expL.length:=by rw [expL_len];exact hlt
   have HT:=hideS (take_next (f:=uV) hx)
   have hfb:=vo k (by omega)
   rw [← HF.out] at hfb
   obtain⟨hf1,hf2⟩:=hfb
   have hfb2:=vo (k+1) (by omega)
   obtain⟨f2,hf⟩:∃ f2,jK (k+1)=f2:=⟨_,rfl⟩
   rw [hf] at hfb2
   obtain⟨hf3,hf4⟩:=hfb2
   have HF2:=hideS hf.symm
   obtain⟨fz,hfz⟩:∃ fz:Int,(fi (f2:Int):Int)=fz:=⟨_,rfl⟩
   obtain⟨x,hxx⟩:∃ x,expL.getD k 0=x:=⟨_,rfl⟩
   obtain⟨xi,hxi⟩:∃ xi:Int,(x:Int)=xi:=⟨_,rfl⟩
   have HInt:Hid (∀ w,Calls Tryz.prog 171 #[.int .i64 (f2:Int)] w fun e w'=>e=.returned (.int .u64 fz)∧Below w.heap.size w w'):=fun w=>by
    have:=kl (f2:Int) w (by omega) (by omega)
    rw [hfz] at this;exact this
   have HDiv:Hid (∀ w,Calls Tryz.prog 173 #[.int .u64 4607182418800017408,.int .u64 fz] w fun e w'=>e=.returned (.int .u64 xi)∧Below w.heap.size w w'):=fun w=>by
    have:=kg 4607182418800017408 (fi (f2:Int)) 4607182418800017408 fz w rfl hfz.symm (by unfold U64;omega) (by rw [← hfz];exact an (xC (a:=(f2:Int)) rfl (by omega) (by omega)).2.2.2)
    have e:=CV k hlt
    rw [hf,hxx] at e
    rw [e,ao,hxi] at this;exact this
   rw [hxx] at HT
   have HXI:=hideS hxi
   clear hx hf hfz hxx hxi
   have hsz:=HB.out.size
   have hfs:=JC (k:=k)
   rw [← HF2.out,← HF.out] at hfs
   have key:∀ (w1:World) (hb1:Below wr.heap.size wr w1),True:=fun _ _=>trivial
   clear key
   rcases (show k≤1∨1<k by omega) with hk1 | hk1
   ·have hff:=hfs.1 hk1
    subst hff
    clear hfs
    go_wp2_with fail
    refine (HInt.out _).mono ?_
    rintro e w1 ⟨rfl,hb1⟩
    have HB1:=hideS hb1
    clear hb1
    go_wp2_with fail
    refine (HDiv.out _).mono ?_
    rintro e w2 ⟨rfl,hb2⟩
    have HB2:=hideS (HB1.out.trans (hb2.mono HB1.out.size))
    have HO2:=hideS (own_below hown.out HB2.out)
    have HBw:=hideS (HB.out.trans (HB2.out.mono hsz))
    have hsz2:=HBw.out.size
    clear hb2 HB1 hown
    go_wp2_with (at_builtin;refine wpList_append_own _ rfl _ _ 39 rfl w.heap.size 49 i0 (.int .u64 0) 1 8 Tryz.underlying39 hi hz0 hz1 hz2 rfl (by decide) _ _ _ rfl (HO2.out.alloc _) ⟨w2.heap.size,0,none⟩ 1 1 [.int .u64 xi] rfl rfl ?c1 ?c2 ?c3 ?c4 ?c5 ?_)
    case c1=>
     intro j u hj
     match j,hj with
     | 0,hj=>simp at hj;subst hj;simp [Addr.add]
    case c2=>intro u hu;simp at hu;subst hu;rfl
    case c3=>unfold maxLen;omega
    case c4=>omega
    case c5=>simp;omega
    ·intro v' w3 hown' hgrow _
     have hlow:=HO2.out.lt
     have hb3:Below w.heap.size w w3:=(HBw.out.alloc hsz2 _).grown hgrow (by simp;omega) (fun j hj=>(hlow j hj).1)
     rw [← HXI.out,show Value.int IntKind.u64 (x:Int)=uV x from rfl,← HT.out] at hown'
     have HO:=hideS hown'
     have HB3:=hideS hb3
     clear hown' hgrow hlow hb3
     go_wp2
     go_roundw
     case rel=>exact⟨k+1,_,by omega,by simp,rfl,HF2,HO,HB3⟩
     case measure=>simp [intOf];omega
   ·have hff:=hfs.2 hk1
    have hmul:(f:Int)*(k:Int)=(f2:Int):=by rw [hff,Int.natCast_mul]
    clear hfs hff
    go_wp2_with fail
    refine (HInt.out _).mono ?_
    rintro e w1 ⟨rfl,hb1⟩
    have HB1:=hideS hb1
    clear hb1
    go_wp2_with fail
    refine (HDiv.out _).mono ?_
    rintro e w2 ⟨rfl,hb2⟩
    have HB2:=hideS (HB1.out.trans (hb2.mono HB1.out.size))
    have HO2:=hideS (own_below hown.out HB2.out)
    have HBw:=hideS (HB.out.trans (HB2.out.mono hsz))
    have hsz2:=HBw.out.size
    clear hb2 HB1 hown
    go_wp2_with (at_builtin;refine wpList_append_own _ rfl _ _ 39 rfl w.heap.size 49 i0 (.int .u64 0) 1 8 Tryz.underlying39 hi hz0 hz1 hz2 rfl (by decide) _ _ _ rfl (HO2.out.alloc _) ⟨w2.heap.size,0,none⟩ 1 1 [.int .u64 xi] rfl rfl ?c1 ?c2 ?c3 ?c4 ?c5 ?_)
    case c1=>
     intro j u hj
     match j,hj with
     | 0,hj=>simp at hj;subst hj;simp [Addr.add]
    case c2=>intro u hu;simp at hu;subst hu;rfl
    case c3=>unfold maxLen;omega
    case c4=>omega
    case c5=>simp;omega
    ·intro v' w3 hown' hgrow _
     have hlow:=HO2.out.lt
     have hb3:Below w.heap.size w w3:=(HBw.out.alloc hsz2 _).grown hgrow (by simp;omega) (fun j hj=>(hlow j hj).1)
     rw [← HXI.out,show Value.int IntKind.u64 (x:Int)=uV x from rfl,← HT.out] at hown'
     have HO:=hideS hown'
     have HB3:=hideS hb3
     clear hown' hgrow hlow hb3
     go_wp2
     go_roundw
     case rel=>exact⟨k+1,_,by omega,by simp,rfl,HF2,HO,HB3⟩
     case measure=>simp [intOf];omega
  ·obtain rfl:k=14:=by omega
   go_wp2
   go_ret
   have h1:=hown.out
   rw [show (14:Nat)=expL.length from expL_len.symm,rowOf_all] at h1
   exact⟨_,rfl,⟨h1⟩,HB.out⟩
end Go.Proofs.YtkooknagalgfpaaGreat
namespace Go.Proofs.YtkooknagalgfpaaGreat
open Go.RowKit

theorem MZ (r:Nat):iu (r:Int)=(mg r:Int):=by
 unfold iu mg
 by_cases c:r<4503599627370496
 ·rw [if_pos c,if_pos (by omega)]
 ·rw [if_neg c,if_neg (by omega)];omega
theorem Na (r:Nat):mq (r:Int)= -1074+(pl r:Int):=by
 unfold mq pl
 by_cases c:r<4503599627370496
 ·rw [if_pos (by omega)];omega
 ·rw [if_neg (by omega)];omega
theorem yH {p:Nat} {neg:Bool} {N:Nat} {e:Int} (h:OfR p neg N e) (h64:p<18446744073709551616) (hn:ah p) (h0:N≠0):aG (p:Int)=sg neg N∧bg (p:Int)=e∧neg=sB p:=by
 obtain⟨m1,m2⟩:=h.mag h0
 have hsz:=oh p
 unfold ah at hn
 have hok:bf (p:Int)=true:=by unfold bf;rw [hsz];simp;omega
 have hr0:p % 9223372036854775808≠0:=by
  intro e0;rw [e0] at m1;exact h0 (by rw [m1];decide)
 refine⟨?_,?_,h.sgn h0⟩
 ·unfold aG
  rw [hok,if_pos rfl,hsz,MZ,← m1,gK h64,← h.sgn h0]
  rfl
 ·unfold bg
  rw [hok,hsz,Na,← m2,show decide (((p % 9223372036854775808:Nat):Int)≠0)=true by simpa using fun h=>hr0 (by omega)]
  rfl
theorem Nb {p:Nat} {neg:Bool} {N:Nat} {e k:Int} (h:OfR p neg N e) (h64:p<18446744073709551616) (hn:ah p) (hv:0≤vI p):bZ neg N (e+k) false=(aF (aG p) (bg p+k):Int):=by
 by_cases h0:N=0
 ·have hz:p % 9223372036854775808=0:=by
   have:=h.val
   rw [h0,Nat.zero_mul] at this
   exact li this.symm
  have hs:aG (p:Int)=0:=by
   unfold aG
   rw [oh,hz]
   unfold iu
   split
   ·split<;>simp
   ·rfl
  rw [hs,h0]
  rfl
 ·obtain⟨s1,s2,s3⟩:=yH h h64 hn h0
  have hneg:neg=false:=by
   cases hneg:neg with
   | false=>rfl
   | true=>
    exfalso
    have ha:aV p≠0:=by
     rw [← h.val]
     have:=Nat.mul_pos (show 0<N by omega) (Nat.two_pow_pos (e+1074).toNat);omega
    rw [xR,← s3,hneg] at hv
    unfold sg at hv;simp at hv;omega
  rw [s1,s2,hneg,gj false _ h0,if_neg (by decide)]
  unfold sg aF
  simp only [Bool.false_eq_true,if_false]
  rw [if_neg (by omega),if_neg (by omega),Int.natAbs_natCast];omega

set_option maxHeartbeats 800000 in
theorem Bo (u:Int) (w:World) (h:U64 u) (hn:af u=true) :
  Calls Tryz.prog 120 #[.int .u64 u] w fun e w'=>e=.returned (.int .u64 9221120237041090561)∧Below w.heap.size w w':=by
 have H:=hideS (aj u w h)
 rw [hn] at H
 clear h hn
 go_enter Tryz.func120,Tryz.ntmps120
 go_wp2_with fail
 refine (turned H.out).mono ?_
 rintro e w' ⟨rfl,rfl⟩
 go_wp2_with fail
 go_ret
 exact⟨rfl,Below.refl _ _⟩
theorem dG (n z:Int) (w:World) (h0: -9223372036854775808≤n) (h1:n≤9223372036854775807) (hz:(fi n:Int)=z) :
  Calls Tryz.prog 171 #[.int .i64 n] w fun e w'=>e=.returned (.int .u64 z)∧Below w.heap.size w w':=by
 rw [← hz];exact kl n w h0 h1

set_option maxHeartbeats 800000 in
theorem Fe (u:Int) (w:World) (h:U64 u) (hn:af u=false) (hl:decide (aa u<aa 4649456441864749056)=false) :
  Calls Tryz.prog 120 #[.int .u64 u] w fun e w'=>e=.returned (.int .u64 9218868437227405312)∧Below w.heap.size w w':=by
 have H:=hideS (aj u w h)
 have HI:=hideS fun w=>dG 710 4649456441864749056 w (by omega) (by omega) (by rw [MY];rfl)
 have HL:=hideS fun w=>gp u 4649456441864749056 false w h (by unfold U64;omega) hn (by decide) hl
 rw [hn] at H
 clear h hn hl
 go_enter Tryz.func120,Tryz.ntmps120
 go_wp2_with fail
 refine (turned H.out).mono ?_
 rintro e w' ⟨rfl,rfl⟩
 go_wp2_with fail
 refine (HI.out _).mono ?_
 rintro e w1 ⟨rfl,hb⟩
 have HB:=hideS hb
 clear hb
 go_wp2_with fail
 refine (HL.out _).mono ?_
 rintro e w' ⟨rfl,rfl⟩
 go_wp2_with fail
 go_ret
 exact⟨rfl,HB.out⟩

set_option maxHeartbeats 800000 in
theorem Ff (u:Int) (w:World) (h:U64 u) (hn:af u=false) (hl:decide (aa u<aa 4649456441864749056)=true) (hl2:decide (aa 13873145138068324352<aa u)=false) :
  Calls Tryz.prog 120 #[.int .u64 u] w fun e w'=>e=.returned (.int .u64 0)∧Below w.heap.size w w':=by
 have H:=hideS (aj u w h)
 have HI:=hideS fun w=>dG 710 4649456441864749056 w (by omega) (by omega) (by rw [MY];rfl)
 have HL:=hideS fun w=>gp u 4649456441864749056 true w h (by unfold U64;omega) hn (by decide) hl
 have HI2:=hideS fun w=>dG (-746) 13873145138068324352 w (by omega) (by omega) (by rw [Pn];rfl)
 have HL2:=hideS fun w=>gp 13873145138068324352 u false w (by unfold U64;omega) h (by decide) hn hl2
 rw [hn] at H
 clear h hn hl hl2
 go_enter Tryz.func120,Tryz.ntmps120
 go_wp2_with fail
 refine (turned H.out).mono ?_
 rintro e w' ⟨rfl,rfl⟩
 go_wp2_with fail
 refine (HI.out _).mono ?_
 rintro e w1 ⟨rfl,hb⟩
 have HB:=hideS hb
 clear hb
 go_wp2_with fail
 refine (HL.out _).mono ?_
 rintro e w' ⟨rfl,rfl⟩
 go_wp2_with fail
 refine (HI2.out _).mono ?_
 rintro e w2 ⟨rfl,hb⟩
 have HB2:=hideS (HB.out.trans (hb.mono HB.out.size))
 clear hb
 go_wp2_with fail
 refine (HL2.out _).mono ?_
 rintro e w' ⟨rfl,rfl⟩
 go_wp2_with fail
 go_ret
 exact⟨rfl,HB2.out⟩

theorem fM {op:BinOp} (ho:op=.add∨op=.sub∨op=.mul∨op=.quo) {x y r:Nat} {z:Int} (h:floatBits op .f64 x y=some r) (hz:z=(r:Int)):U64 z:=by rw [hz];exact an (iP ho h)
theorem mH {x y r:Nat} {u v z:Int} (hu:u=(x:Int)) (hv:v=(y:Int)) (h:U64 u) (h':U64 v) (hr:floatBits .mul .f64 x y=some r) (hz:z=(r:Int)) (w:World) :
  Calls Tryz.prog 37 #[.int .u64 u,.int .u64 v] w fun e w'=>e=.returned (.int .u64 z)∧Below w.heap.size w w':=by
 have:=ke x y u v w hu hv h h'
 rw [hr,ao,← hz] at this;exact this
theorem JE {x y r:Nat} {u v z:Int} (hu:u=(x:Int)) (hv:v=(y:Int)) (h:U64 u) (h':U64 v) (hr:floatBits .add .f64 x y=some r) (hz:z=(r:Int)) (w:World) :
  Calls Tryz.prog 38 #[.int .u64 u,.int .u64 v] w fun e w'=>e=.returned (.int .u64 z)∧Below w.heap.size w w':=by
 have:=hU x y u v w hu hv h h'
 rw [hr,ao,← hz] at this;exact this
theorem Bp {x y r:Nat} {u v z:Int} (hu:u=(x:Int)) (hv:v=(y:Int)) (h:U64 u) (h':U64 v) (hr:floatBits .sub .f64 x y=some r) (hz:z=(r:Int)) (w:World) :
  Calls Tryz.prog 36 #[.int .u64 u,.int .u64 v] w fun e w'=>e=.returned (.int .u64 z)∧Below w.heap.size w w':=by
 have:=AU x y u v w hu hv h h'
 rw [hr,ao,← hz] at this;exact this
set_option maxRecDepth 20000 in
set_option maxHeartbeats 1600000 in
theorem Bq (x y t hi lo d r p:Nat) (u k res:Int) (K:Nat) (w:World) (hu:u=(x:Int)) (h:U64 u) (hn:af u=false) (hl:decide (aa u<aa 4649456441864749056)=true) (hl2:decide (aa 13873145138068324352<aa u)=true)
  (q1:floatBits .mul .f64 x 4609176140021203710=some y) (q2:floatBits .add .f64 y 4602678819172646912=some t) (tn:ah t) (hK:K=1074) (f1:k*((2^K:Nat):Int)≤vI t) (f2:vI t<(k+1)*((2^K:Nat):Int)) (k1: -2000≤k) (k2:k≤2000)
  (q3:floatBits .mul .f64 (fi k) 4604418534311723008=some hi) (q4:floatBits .mul .f64 (fi k) 4461442080421002358=some lo) (q5:floatBits .sub .f64 x hi=some d) (q6:floatBits .sub .f64 d lo=some r) (q7:aZ expL r=some p) (pn:ah p) (p64:p<18446744073709551616) (pv:0≤vI p) (hres:(aF (aG p) (bg p+k):Int)=res) :
  Calls Tryz.prog 120 #[.int .u64 u] w fun e w'=>e=.returned (.int .u64 res)∧Below w.heap.size w w':=by
 have H:=hideS (aj u w h)
 have HI:=hideS fun w=>dG 710 4649456441864749056 w (by omega) (by omega) (by rw [MY];rfl)
 have HL:=hideS fun w=>gp u 4649456441864749056 true w h (by unfold U64;omega) hn (by decide) hl
 have HI2:=hideS fun w=>dG (-746) 13873145138068324352 w (by omega) (by omega) (by rw [Pn];rfl)
 have HL2:=hideS fun w=>gp 13873145138068324352 u true w (by unfold U64;omega) h (by decide) hn hl2
 rw [hn] at H
 obtain⟨yi,hy⟩:∃ yi:Int,yi=(y:Int):=⟨_,rfl⟩
 obtain⟨ti,ht⟩:∃ ti:Int,ti=(t:Int):=⟨_,rfl⟩
 obtain⟨fz,hf⟩:∃ fz:Int,fz=(fi k:Int):=⟨_,rfl⟩
 obtain⟨hii,hhi⟩:∃ hii:Int,hii=(hi:Int):=⟨_,rfl⟩
 obtain⟨loi,hlo⟩:∃ loi:Int,loi=(lo:Int):=⟨_,rfl⟩
 obtain⟨di,hd⟩:∃ di:Int,di=(d:Int):=⟨_,rfl⟩
 obtain⟨ri,hr⟩:∃ ri:Int,ri=(r:Int):=⟨_,rfl⟩
 obtain⟨pi,hp⟩:∃ pi:Int,pi=(p:Int):=⟨_,rfl⟩
 have uf:U64 fz:=by rw [hf];exact an (xC (a:=k) rfl (by omega) (by omega)).2.2.2
 have M1:=hideS fun w=>mH (z:=yi) hu (v:=4609176140021203710) rfl h (by unfold U64;omega) q1 hy w
 have A1:=hideS fun w=>JE (z:=ti) hy (v:=4602678819172646912) rfl (fM (by simp) q1 hy) (by unfold U64;omega) q2 ht w
 have FL:=hideS fun w=>xZ t ti k K w ht (fM (by simp) q2 ht) tn hK f1 f2 k1 k2
 have IK:=hideS fun w=>dG k fz w (by omega) (by omega) hf.symm
 have M2:=hideS fun w=>mH (z:=hii) hf (v:=4604418534311723008) rfl uf (by unfold U64;omega) q3 hhi w
 have S1:=hideS fun w=>Bp (z:=di) hu hhi h (fM (by simp) q3 hhi) q5 hd w
 have M3:=hideS fun w=>mH (z:=loi) hf (v:=4461442080421002358) rfl uf (by unfold U64;omega) q4 hlo w
 have S2:=hideS fun w=>Bp (z:=ri) hd hlo (fM (by simp) q5 hd) (fM (by simp) q4 hlo) q6 hr w
 have HH:Hid (∀ B v w,OwnF w B 49 uV v expL→Calls Tryz.prog 175 #[v,.int .u64 ri] w fun e w'=>e=.returned (.int .u64 pi)∧Below w.heap.size w w'):=fun B v w hO=>by
  have:=jP B 14 r v ri expL w hO JD hr (fM (by simp) q6 hr) expL_len (by decide)
  rw [q7,ao,← hp] at this;exact this
 have HO:=hideS fun w=>gL p pi w hp (by rw [hp];exact an p64) pn
 have HEnd:Hid (∀ neg N e,OfR p neg N e→bZ neg N (e+k) false=res∧N<9007199254740992∧-1074≤e∧e≤971):=fun neg N e ho=>⟨by rw [← hres];exact Nb ho p64 pn pv,ho.lt,ho.lo,ho.hi⟩
 clear h hn hl hl2 hu q1 q2 tn hK f1 f2 q3 q4 q5 q6 q7 pn p64 pv hres hy ht hf hhi hlo hd hr hp uf
 go_enter Tryz.func120,Tryz.ntmps120
 go_wp2_with fail
 refine (turned H.out).mono ?_
 rintro e w' ⟨rfl,rfl⟩
 go_wp2_with fail
 refine (HI.out _).mono ?_
 rintro e w1 ⟨rfl,hb⟩
 have B1:=hideS hb
 clear hb
 go_wp2_with fail
 refine (HL.out _).mono ?_
 rintro e w' ⟨rfl,rfl⟩
 go_wp2_with fail
 refine (HI2.out _).mono ?_
 rintro e w2 ⟨rfl,hb⟩
 have B2:=hideS (B1.out.trans (hb.mono B1.out.size))
 clear hb B1
 go_wp2_with fail
 refine (HL2.out _).mono ?_
 rintro e w' ⟨rfl,rfl⟩
 go_wp2_with fail
 refine (M1.out _).mono ?_
 rintro e w3 ⟨rfl,hb⟩
 have B3:=hideS (B2.out.trans (hb.mono B2.out.size))
 clear hb B2
 go_wp2_with fail
 refine (A1.out _).mono ?_
 rintro e w4 ⟨rfl,hb⟩
 have B4:=hideS (B3.out.trans (hb.mono B3.out.size))
 clear hb B3
 go_wp2_with fail
 refine (FL.out _).mono ?_
 rintro e w5 ⟨rfl,hb⟩
 have B5:=hideS (B4.out.trans (hb.mono B4.out.size))
 clear hb B4
 go_wp2_with fail
 refine (IK.out _).mono ?_
 rintro e w6 ⟨rfl,hb⟩
 have B6:=hideS (B5.out.trans (hb.mono B5.out.size))
 clear hb B5
 go_wp2_with fail
 refine (M2.out _).mono ?_
 rintro e w7 ⟨rfl,hb⟩
 have B7:=hideS (B6.out.trans (hb.mono B6.out.size))
 clear hb B6
 go_wp2_with fail
 refine (S1.out _).mono ?_
 rintro e w8 ⟨rfl,hb⟩
 have B8:=hideS (B7.out.trans (hb.mono B7.out.size))
 clear hb B7
 go_wp2_with fail
 refine (M3.out _).mono ?_
 rintro e w9 ⟨rfl,hb⟩
 have B9:=hideS (B8.out.trans (hb.mono B8.out.size))
 clear hb B8
 go_wp2_with fail
 refine (S2.out _).mono ?_
 rintro e w10 ⟨rfl,hb⟩
 have B10:=hideS (B9.out.trans (hb.mono B9.out.size))
 clear hb B9
 go_wp2_with fail
 refine (Fd _).mono ?_
 rintro e w11 ⟨v,rfl,hO,hb⟩
 have B11:=hideS (B10.out.trans (hb.mono B10.out.size))
 have HO11:=hideS (HH.out _ _ _ hO)
 clear hb B10 hO HH
 go_wp2_with fail
 refine HO11.out.mono ?_
 rintro e w12 ⟨rfl,hb⟩
 have B12:=hideS (B11.out.trans (hb.mono B11.out.size))
 clear hb B11 HO11
 go_wp2_with fail
 refine (HO.out _).mono ?_
 rintro e w13 ⟨neg,vx,N,ee,rfl,hdx,hX,hb⟩
 obtain⟨pp,l,c,rfl⟩:=hdx.shape
 obtain⟨e1,e2,e3,e4⟩:=HEnd.out neg N ee hX
 have B13:=hideS (B12.out.trans (hb.mono B12.out.size))
 have HNr:Hid (Calls Tryz.prog 79 #[.agg #[.bool neg,.slice pp l c,.int .i64 (ee+k)]] (boxN w13 neg (.slice pp l c) (ee+k)) fun x w'=>x=.returned (.int .u64 res)∧Below (boxN w13 neg (.slice pp l c) (ee+k)).heap.size (boxN w13 neg (.slice pp l c) (ee+k)) w'):=by
  rw [← e1]
  exact iL neg _ (ee+k) N _ (hdx.below (aJ _ _ _ _)) (by have:=fK e2;omega) (by omega) (by omega)
 have B14:=hideS (B13.out.trans ((aJ w13 neg (.slice pp l c) (ee+k)).mono B13.out.size))
 clear hb B12 hdx hX e1 e2 HEnd B13
 go_wp2_with fail
 refine HNr.out.mono ?_
 rintro e w15 ⟨rfl,hb⟩
 have B15:=hideS (B14.out.trans (hb.mono B14.out.size))
 clear hb B14
 go_wp2_with fail
 go_ret
 exact⟨rfl,B15.out⟩
end Go.Proofs.YtkooknagalgfpaaGreat
namespace Go.Proofs.YtkooknagalgfpaaGreat
open Go.RowKit

theorem QA {o:Option Nat} {r:Nat} (h:Ag o r) (ho:∀ q,o=some q→q<18446744073709551616):r<18446744073709551616:=by
 cases o with
 | none=>exact (fC h).2
 | some q=>rw [dj h];exact ho q rfl
end Go.Proofs.YtkooknagalgfpaaGreat
namespace Go.Proofs.YtkooknagalgfpaaGreat
open Go.RowKit

structure Both (f g:Nat) (x:Nat) (u:Int) (y:Nat) (z:Int):Prop where
 prog:∀ w,Calls Tryz.prog f #[.float .f64 x] w fun e w'=>e=.returned (.float .f64 y)∧Below w.heap.size w w'
 doc:∀ w,Calls Tryz.prog g #[.int .u64 u] w fun e w'=>e=.returned (.int .u64 z)∧Below w.heap.size w w'
 same:kw (y:Int) z=true
 uy:U64 (y:Int)
 uz:U64 z
theorem qP {f:Nat} {args:Array Value} {v:Value} {w:World} (h:Calls Tryz.prog f args w fun e w'=>e=.returned v∧w'=w):Calls Tryz.prog f args w fun e w'=>e=.returned v∧Below w.heap.size w w':=
 h.mono fun _ _ ⟨a,b⟩=>⟨a,by rw [b];exact Below.refl _ _⟩
theorem Fh {y:Nat} {z:Int} (h:z=(y:Int)):kw (y:Int) z=true:=by rw [h];exact oK _
theorem yJ (m e:Int):aF m e<18446744073709551616:=by
 unfold aF
 have h1:=iB m.natAbs e
 split
 ·decide
 ·split<;>omega

theorem Fi (x:Nat) (u:Int) (hu:u=(x:Int)) (h:U64 x):∃ y z,Both 243 120 x u y z∧(af (x:Int)=true→z=9221120237041090561)∧(af (x:Int)=false→y≤9218868437227405312∧z=(y:Int)):=by
 have hx64:x<18446744073709551616:=by have:=h.2;omega
 have h':U64 u:=by rw [hu];exact h
 cases hn:af (x:Int) with
 | true=>exact⟨x,9221120237041090561,⟨fun w=>qP (MU x w h hn),fun w=>Bo u w h' (by rw [hu];exact hn),Dz hn qg,h,by unfold U64;omega⟩,fun _=>rfl,fun a=>by cases a⟩
 | false=>
  have hn':af u=false:=by rw [hu];exact hn
  have u1:U64 ((4649456441864749056:Nat):Int):=by unfold U64;omega
  have u2:U64 ((13873145138068324352:Nat):Int):=by unfold U64;omega
  have n1:af ((4649456441864749056:Nat):Int)=false:=by decide+kernel
  have n2:af ((13873145138068324352:Nat):Int)=false:=by decide+kernel
  have g1:=cI h u1 hn n1
  have e1:=bK h u1 hn n1
  have g2:=eA h u2 hn n2
  have e2:=bK h u2 hn n2
  have r1:aa ((4649456441864749056:Nat):Int)=4649456441864749056:=by decide+kernel
  have r2:aa ((13873145138068324352:Nat):Int)= -4649773101213548544:=by decide+kernel
  have r1':aa (4649456441864749056:Int)=4649456441864749056:=by decide+kernel
  have r2':aa (13873145138068324352:Int)= -4649773101213548544:=by decide+kernel
  rw [r1] at g1 e1
  rw [r2] at g2 e2
  by_cases c1:4649456441864749056≤aa (x:Int)
  ·refine⟨9218868437227405312,9218868437227405312,⟨fun w=>qP (Pj x _ _ w h hn g1 e1 ?_),fun w=>Fe u w h' hn' ?_,rfl,by unfold U64;omega,by unfold U64;omega⟩,fun a=>(by cases a),fun _=>⟨Nat.le_refl _,rfl⟩⟩
   ·simp only [Bool.or_eq_true,decide_eq_true_eq];omega
   ·rw [r1',hu,decide_eq_false_iff_not];omega
  have f1:(FloatKind.f64.format.order x 4649456441864749056==some .gt)=false:=by rw [g1,decide_eq_false_iff_not];omega
  have f2:(FloatKind.f64.format.order x 4649456441864749056==some .eq)=false:=by rw [e1,decide_eq_false_iff_not];omega
  have d1:decide (aa u<aa 4649456441864749056)=true:=by rw [r1',hu,decide_eq_true_eq];omega
  by_cases c2:aa (x:Int)≤-4649773101213548544
  ·refine⟨0,0,⟨fun w=>qP (Pk x _ _ w h hn f1 f2 g2 e2 ?_),fun w=>Ff u w h' hn' d1 ?_,rfl,by unfold U64;omega,by unfold U64;omega⟩,fun a=>(by cases a),fun _=>⟨Nat.zero_le _,rfl⟩⟩
   ·simp only [Bool.or_eq_true,decide_eq_true_eq];omega
   ·rw [r2',hu,decide_eq_false_iff_not];omega
  have f3:(FloatKind.f64.format.order x 13873145138068324352==some .lt)=false:=by rw [g2,decide_eq_false_iff_not];omega
  have f4:(FloatKind.f64.format.order x 13873145138068324352==some .eq)=false:=by rw [e2,decide_eq_false_iff_not];omega
  have d2:decide (aa 13873145138068324352<aa u)=true:=by rw [r2',hu,decide_eq_true_eq];omega
  obtain⟨K,g,hs⟩:=Qz
  have hxn:ah x:=by
   have hl:=eC hn
   rw [← bU hx64 hn] at c1 c2
   unfold ah
   unfold sgn at c1 c2
   generalize x % 9223372036854775808=r at *
   generalize (x / 9223372036854775808 % 2==1)=s at c1 c2
   cases s<;>simp only [Bool.false_eq_true,if_true,if_false] at c1 c2<;>omega
  obtain⟨w1,w2,w3⟩:=lG hs (m:=710) (by decide) (by decide)
  obtain⟨v1,v2,v3⟩:=lG hs (m:=-746) (by decide) (by decide)
  rw [MY] at w1 w2 w3
  rw [Pn] at v1 v2 v3
  have b1:=qO hxn w2 hx64 w3 (by rw [r1];omega)
  have b2:=qO v2 hxn v3 hx64 (by rw [r2];omega)
  rw [w1] at b1
  rw [v1] at b2
  obtain⟨y,t,hi,lo,d,r,k,q1,q2,tn,q3,kf1,kf2,k1,k2,q4,q5,q6,q7,rn,_,r1,r2⟩:=Fa hs hxn (by omega) (by omega)
  obtain⟨p,p0,pn,p64,pv⟩:=Jy hs rn r1 r2
  obtain⟨s1,s2,s3,s4⟩:=Pm pn p64 pv
  refine⟨aF (aG p) (bg p+k),(aF (aG p) (bg p+k):Int),⟨fun w=>MV x y t (fi k) hi lo d r p k w h hn f1 f2 f3 f4 q1 q2 (fun w=>Js t _ w tn q3) q4 q5 q6 q7 p0 (an p64) (JA k1 k2) ⟨k1,k2⟩ ⟨s3,s4⟩ (MW s1 s2),fun w=>Bq x y t hi lo d r p u k _ K w hu h' hn' d1 d2 q1 q2 tn hs.k kf1 kf2 k1 k2 q4 q5 q6 q7 p0 pn p64 pv rfl,Fh rfl,an (yJ _ _),an (yJ _ _)⟩,fun a=>(by cases a),fun _=>⟨Jz s1,rfl⟩⟩

end Go.Proofs.YtkooknagalgfpaaGreat
namespace Go.Proofs.YtkooknagalgfpaaGreat
open Go.RowKit

theorem JF {cs:List Nat} {x:Nat} (hx:af (x:Int)=true) (hl:2≤cs.length):aZ cs x=none:=by
 obtain⟨k,hk⟩:∃ k,cs.length - 1=k+1:=⟨cs.length - 2,by omega⟩
 unfold aZ
 rw [if_neg (by omega),hk]
 show fD x (hornAt cs x k) _=none
 unfold fD
 cases hornAt cs x k with
 | none=>rfl
 | some p=>
  show (floatBits .mul .f64 p x).bind _=none
  rw [eG hx];rfl
theorem CZ {cs:List Nat} {z:Option Nat} {x:Nat} (h:Ag z x) (hl:2≤cs.length):(z.bind fun z=>aZ cs z)=aZ cs x:=by
 cases z with
 | none=>rw [JF (fC h).1 hl];rfl
 | some r=>rw [dj h];rfl
def lnO (a b hi lo:Nat):Option Nat:=
 opO .add (some hi) (opO .add (opO .mul (opO .mul (some 4611686018427387904) (floatBits .quo .f64 a b)) ((opO .mul (floatBits .quo .f64 a b) (floatBits .quo .f64 a b)).bind fun z=>aZ lnL z)) (some lo))
theorem lnL_len:lnL.length=11:=by decide
theorem JG {a b hi lo s s2 z h v c r:Nat} (g3:Ag (floatBits .quo .f64 a b) s) (g4:Ag (floatBits .mul .f64 4611686018427387904 s) s2) (g5:Ag (floatBits .mul .f64 s s) z) (g6:Ag (aZ lnL z) h) (g7:Ag (floatBits .mul .f64 s2 h) v) (g8:Ag (floatBits .add .f64 v lo) c) (g9:Ag (floatBits .add .f64 hi c) r):Ag (lnO a b hi lo) r:=by
 unfold lnO
 have e0:Ag (some 4611686018427387904) 4611686018427387904:=rfl
 have e4:Ag (opO .mul (some 4611686018427387904) (floatBits .quo .f64 a b)) s2:=by rw [iR e0 g3];exact g4
 have e5:Ag (opO .mul (floatBits .quo .f64 a b) (floatBits .quo .f64 a b)) z:=by rw [iR g3 g3];exact g5
 have e6:Ag ((opO .mul (floatBits .quo .f64 a b) (floatBits .quo .f64 a b)).bind fun z=>aZ lnL z) h:=by rw [CZ e5 (by rw [lnL_len];decide)];exact g6
 have e7:Ag (opO .mul (opO .mul (some 4611686018427387904) (floatBits .quo .f64 a b)) ((opO .mul (floatBits .quo .f64 a b) (floatBits .quo .f64 a b)).bind fun z=>aZ lnL z)) v:=by rw [iR e4 e6];exact g7
 have e8:=iR (op:=.add) (o':=some lo) (c:=lo) e7 rfl
 rw [← e8] at g8
 have e9:=iR (op:=.add) (o:=some hi) (a:=hi) rfl g8
 rw [← e9] at g9
 exact g9

set_option maxRecDepth 20000 in
set_option maxHeartbeats 1600000 in
theorem QB (x m a b kf hi lo:Nat) (k:Int) (w:World) (h:U64 x) (hn:af x=false) (hl:(FloatKind.f64.format.order x 0==some .lt)=false) (he:(FloatKind.f64.format.order x 0==some .eq)=false) (hi0:(FloatKind.f64.format.order x 9218868437227405311==some .gt)=false)
  (hA:Hid (∀ w,Calls Tryz.prog 262 #[.float .f64 x] w fun r w'=>r=.returned (.tuple #[.float .f64 m,.int .i64 k])∧∃ q,w'=w.drewN q))
  (q1:floatBits .sub .f64 m 4607182418800017408=some a) (q2:floatBits .add .f64 m 4607182418800017408=some b) (hkf:fi k=kf) (q8:floatBits .mul .f64 kf 4604418534311723008=some hi) (q9:floatBits .mul .f64 kf 4461442080421002358=some lo) :
  Calls Tryz.prog 244 #[.float .f64 x] w fun e w'=>∃ r,e=.returned (.float .f64 r)∧Ag (lnO a b hi lo) r∧Below w.heap.size w w':=by
 have H:=hideS (aE x w h)
 rw [hn] at H
 have HI:=hideS (mI x false w hi0)
 have r1:=fun w=>run_float_arith (P:=Tryz.prog) w .sub 46 .f64 _ _ _ q1
 have r2:=fun w=>run_float_arith (P:=Tryz.prog) w .add 46 .f64 _ _ _ q2
 have hfo:=(bD k).trans hkf
 have HL:Hid (∀ w,Calls Tryz.prog 259 #[.float .f64 kf] w fun e w'=>e=.returned (.tuple #[.float .f64 hi,.float .f64 lo])∧w'=w):=fun w=>CY kf hi lo w q8 q9
 clear h hn q1 q2 q8 q9 hi0 hkf
 go_enter Tryz.func244,Tryz.ntmps244
 go_wp2_with fail
 refine (turned H.out).mono ?_
 rintro e w' ⟨rfl,rfl⟩
 clear H
 go_wp2_with fail
 refine (turned HI.out).mono ?_
 rintro e w' ⟨rfl,rfl⟩
 clear HI
 go_wp2_with fail
 refine (hA.out _).mono ?_
 rintro e w' ⟨rfl,q,hw'⟩
 have B0:Hid (Below w.heap.size w w'):=by rw [hw'];exact⟨rfl,rfl,rfl,Nat.le_refl _,fun _ _=>rfl⟩
 clear hw'
 obtain⟨s,⟨q3,r3⟩,g3⟩:=cR .quo (by simp) 46 a b w'
 obtain⟨s2,⟨q4,r4⟩,g4⟩:=cR .mul (by simp) 46 4611686018427387904 s (w'.drewN q3)
 have G3:=hideS g3
 have G4:=hideS g4
 clear g3 g4
 go_wp2_with fail
 obtain⟨w2,hw2⟩:∃ w2,w2=w'.drewN (q3+q4):=⟨_,rfl⟩
 rw [← hw2]
 have B2:Hid (Below w.heap.size w w2):=by rw [hw2];exact⟨B0.out.os,B0.out.tape,B0.out.output,B0.out.size,B0.out.block⟩
 clear hw2 r3 r4 B0
 have HT:=hideS (yB w2)
 refine HT.out.mono ?_
 rintro e w3 ⟨rfl,hs,hb⟩
 have B3:Hid (Below w.heap.size w w3):=B2.out.trans (hb.mono B2.out.size)
 obtain⟨z,⟨q5,r5⟩,g5⟩:=cR .mul (by simp) 46 s s w3
 have HH:Hid (Calls Tryz.prog 260 #[.slice (some ⟨w2.heap.size,0,none⟩) 11 11,.float .f64 z] (w3.drewN q5) fun e w4=>∃ r',e=.returned (.float .f64 r')∧Ag (aZ lnL z) r'∧∃ q,w4=(w3.drewN q5).drewN q):=pL _ w2.heap.size 0 11 z 11 lnL (w3.drewN q5) (hs.below ⟨rfl,rfl,rfl,Nat.le_refl _,fun _ _=>rfl⟩) rfl (by decide)
 have G5:=hideS g5
 clear hs hb HT B2 g5
 go_wp2_with fail
 refine HH.out.mono ?_
 rintro e w4 ⟨h',rfl,hag,q6,hw4⟩
 have B4:Hid (Below w.heap.size w w4):=by rw [hw4];exact⟨B3.out.os,B3.out.tape,B3.out.output,B3.out.size,B3.out.block⟩
 obtain⟨v,⟨q7,r7⟩,g7⟩:=cR .mul (by simp) 46 s2 h' w4
 have G6:=hideS hag
 have G7:=hideS g7
 clear hag g7 hw4 HH B3 r5
 go_wp2_with fail
 obtain⟨w5,hw5⟩:∃ w5,w5=w4.drewN q7:=⟨_,rfl⟩
 rw [← hw5]
 have B5:Hid (Below w.heap.size w w5):=by rw [hw5];exact⟨B4.out.os,B4.out.tape,B4.out.output,B4.out.size,B4.out.block⟩
 clear hw5 r7 B4
 refine (turned (HL.out _)).mono ?_
 rintro e w' ⟨rfl,rfl⟩
 obtain⟨c,⟨q8,r8⟩,g8⟩:=cR .add (by simp) 46 v lo w5
 obtain⟨r,⟨q9,r9⟩,g9⟩:=cR .add (by simp) 46 hi c (w5.drewN q8)
 have GE:=hideS (JG G3.out G4.out G5.out G6.out G7.out g8 g9)
 clear g8 g9 G3 G4 G5 G6 G7
 go_wp2_with fail
 go_ret
 exact⟨r,rfl,GE.out,⟨B5.out.os,B5.out.tape,B5.out.output,B5.out.size,B5.out.block⟩⟩
end Go.Proofs.YtkooknagalgfpaaGreat
