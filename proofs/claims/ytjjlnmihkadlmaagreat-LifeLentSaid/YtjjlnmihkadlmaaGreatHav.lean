/-  -/
import Derived.Test.YtjjlnmihkadlmaaGreatHau
namespace Go.Proofs.YtjjlnmihkadlmaaGreat
open Go.RowKit

theorem qg {c:Nat} (h:c<9223372036854775808):c^^^9223372036854775808=9223372036854775808+c:=by
 rw [show (9223372036854775808:Nat)=2^63 from rfl] at *
 apply Nat.eq_of_testBit_eq
 intro i
 rw [Nat.testBit_xor,Nat.testBit_two_pow]
 by_cases h1:i=63
 ·subst h1
  rw [Nat.testBit_two_pow_add_eq]
  simp
 ·by_cases h2:i<63
  ·have e:decide (63=i)=false:=by rw [decide_eq_false_iff_not];omega
   rw [Nat.testBit_two_pow_add_gt h2,e,Bool.xor_false]
  ·have h3:c.testBit i=false:=Nat.testBit_lt_two_pow (Nat.lt_of_lt_of_le h (Nat.pow_le_pow_right (by decide) (by omega)))
   have h4:(2^63+c).testBit i=false:=Nat.testBit_lt_two_pow (Nat.lt_of_lt_of_le (show 2^63+c<2^64 by omega) (Nat.pow_le_pow_right (by decide) (by omega)))
   have e:decide (63=i)=false:=by rw [decide_eq_false_iff_not];omega
   rw [h3,h4,e];rfl
def flipN (x:Nat):Nat:=if x<9223372036854775808 then 9223372036854775808+x else x - 9223372036854775808
theorem yv {b:Nat} (h:b<18446744073709551616):b^^^9223372036854775808=flipN b:=by
 unfold flipN
 by_cases h1:b<9223372036854775808
 ·rw [if_pos h1,qg h1]
 ·rw [if_neg h1]
  obtain⟨c,rfl⟩:∃ c,b=9223372036854775808+c:=⟨b - 9223372036854775808,by omega⟩
  rw [← qg (c:=c) (by omega),Nat.xor_assoc,Nat.xor_self,Nat.xor_zero]
  have:=qg (c:=c) (by omega)
  omega
theorem fH {x:Nat} (h:x<18446744073709551616):flipN x<18446744073709551616∧flipN x % 9223372036854775808=x % 9223372036854775808∧(flipN x / 9223372036854775808 % 2==1)=!(x / 9223372036854775808 % 2==1):=by
 unfold flipN
 by_cases h1:x<9223372036854775808
 ·rw [if_pos h1]
  refine⟨by omega,by omega,?_⟩
  rw [show (9223372036854775808+x) / 9223372036854775808=1 by omega,show x / 9223372036854775808=0 by omega];rfl
 ·rw [if_neg h1]
  refine⟨by omega,by omega,?_⟩
  rw [show (x - 9223372036854775808) / 9223372036854775808=0 by omega,show x / 9223372036854775808=1 by omega];rfl
theorem sf {x y:Nat} (h:y<18446744073709551616) (hn:ag (y:Int)=false):floatBits .add .f64 x (flipN y)=floatBits .sub .f64 x y:=by
 obtain⟨_,h2,h3⟩:=fH h
 have hl:=dF hn
 have e:Ieee.double.read (flipN y)=(Ieee.double.read y).opposite:=by
  by_cases hy:y % 9223372036854775808<9218868437227405312
  ·rw [au (b:=flipN y) (by rw [h2];exact hy),au hy,h2,h3];rfl
  ·rw [aI (b:=flipN y) (by rw [h2];omega),aI (b:=y) (by omega),h3];rfl
 show ((Ieee.double.read x).sum (Ieee.double.read (flipN y))).map Ieee.double.write=((Ieee.double.read x).sum (Ieee.double.read y).opposite).map Ieee.double.write
 rw [e]

set_option maxHeartbeats 400000 in
theorem lT (y:Nat) (v z:Int) (w:World) (hv:Hid (v=(y:Int))) (h:U64 v) (hz:Hid (z=(flipN y:Int))) :
  Calls Tryz.prog 163 #[.int .u64 v] w fun e w'=>e=.returned (.int .u64 z)∧w=w':=by
 have hb:bits .xor .u64 v 9223372036854775808=z:=by
  have hy:y<18446744073709551616:=by have:=h.2;rw [hv.out] at this;omega
  have:=bits_xor_u64_nat y 9223372036854775808 hy (by decide)
  rw [show ((9223372036854775808:Nat):Int)=9223372036854775808 from rfl,yv hy] at this
  rw [hv.out,hz.out];exact this
 go_enter Tryz.func163,Tryz.ntmps163
 go_wp2
 go_ret
 exact⟨rfl,rfl⟩

set_option maxHeartbeats 400000 in
theorem uX (x y:Nat) (u v:Int) (w:World) (hu:Hid (u=(x:Int))) (hv:Hid (v=(y:Int))) (h:U64 u) (h':U64 v) :
  Calls Tryz.prog 173 #[.int .u64 u,.int .u64 v] w fun e w'=>e=.returned (.int .u64 (cn (floatBits .sub .f64 x y):Int))∧Below w.heap.size w w':=by
 have hy64:y<18446744073709551616:=by have:=h'.2;rw [hv.out] at this;omega
 obtain⟨res,hres⟩:∃ res:Int,(cn (floatBits .sub .f64 x y):Int)=res:=⟨_,rfl⟩
 rw [hres]
 have HN:=hideS (ah v · h')
 cases hn:ag v with
 | true=>
  rw [hn] at HN
  have HE:Hid ((9221120237041090561:Int)=res):=by show _=_;rw [← hres,dH (by rw [← hv.out];exact hn)];rfl
  clear h h' hn hres
  go_enter Tryz.func173,Tryz.ntmps173
  go_wp2_with fail
  refine (turned (HN.out _)).mono ?_
  rintro e w' ⟨rfl,rfl⟩
  go_wp2_with fail
  go_ret
  exact⟨bW HE.out,Below.refl _ _⟩
 | false=>
  rw [hn] at HN
  obtain⟨z,hz⟩:∃ z:Int,z=(flipN y:Int):=⟨_,rfl⟩
  have HF:=hideS fun w=>lT y v z w hv h' hz
  have HA:Hid (∀ w,Calls Tryz.prog 172 #[.int .u64 u,.int .u64 z] w fun e w'=>e=.returned (.int .u64 res)∧Below w.heap.size w w'):=fun w=>by
   have:=fG x (flipN y) u z w hu hz h (by rw [hz];exact an (fH hy64).1)
   rw [sf hy64 (by rw [← hv.out];exact hn),hres] at this;exact this
  clear h h' hn hres hz
  go_enter Tryz.func173,Tryz.ntmps173
  go_wp2_with fail
  refine (turned (HN.out _)).mono ?_
  rintro e w' ⟨rfl,rfl⟩
  go_wp2_with fail
  refine (HF.out _).mono ?_
  rintro e w' ⟨rfl,rfl⟩
  go_wp2_with fail
  refine (HA.out _).mono ?_
  rintro e w1 ⟨rfl,hb⟩
  have HB:=hideS hb
  clear hb
  go_wp2_with fail
  go_ret
  exact⟨rfl,HB.out⟩

theorem Bv (n:Int):bO (decide (n<0)) n.natAbs 0 false=(fi n:Int):=by
 unfold fi aG
 by_cases hz:n=0
 ·subst hz;rw [if_pos rfl];rfl
 ·rw [if_neg hz,eN _ _ (by omega)]
  by_cases hn:n<0
  ·rw [if_pos hn,decide_eq_true hn];simp only [if_true];omega
  ·rw [if_neg hn,decide_eq_false hn];simp

set_option maxHeartbeats 400000 in
theorem iD (n:Int) (w:World) (h0: -9223372036854775808≤n) (h1:n≤9223372036854775807) :
  Calls Tryz.prog 170 #[.int .i64 n] w fun e w'=>e=.returned (.int .u64 (fi n:Int))∧Below w.heap.size w w':=by
 obtain⟨res,hres⟩:∃ res:Int,(fi n:Int)=res:=⟨_,rfl⟩
 rw [hres]
 rw [← Bv] at hres
 obtain⟨ng,hng⟩:∃ ng,decide (n<0)=ng:=⟨_,rfl⟩
 have HW:Hid (∀ w,Calls Tryz.prog 165 #[.int .i64 n] w fun x w'=>∃ v,x=.returned (.agg #[.bool ng,v,.int .i64 0])∧DN w' v n.natAbs∧Below w.heap.size w w'):=fun w=>by rw [← hng];exact uH n w h0 h1
 rw [hng] at hres
 have HRes:=hideS hres
 have hnd:nd n.natAbs≤1000000:=Nat.le_trans (ct (k:=2) (by omega)) (by omega)
 clear hng hres
 go_enter Tryz.func170,Tryz.ntmps170
 go_wp2_with fail
 refine (HW.out _).mono ?_
 rintro x w1 ⟨v1,rfl,hd1,hb1⟩
 obtain⟨p,l,c,rfl⟩:=hd1.shape
 have HB:=hideS hb1
 have HNr:=hideS (gj ng _ 0 n.natAbs w1 hd1 hnd (by omega) (by omega))
 rw [HRes.out] at HNr
 clear hd1 hb1
 go_wp2_with fail
 refine HNr.out.mono ?_
 rintro x w2 ⟨rfl,hb2⟩
 have HB2:=hideS (HB.out.trans (hb2.mono HB.out.size))
 clear hb2
 go_wp2_with fail
 go_ret
 exact⟨rfl,HB2.out⟩

set_option maxHeartbeats 400000 in
theorem eQ (u v:Int) (b:Bool) (w:World) (h:U64 u) (h':U64 v) (hn:ag u=false) (hn':ag v=false) (hb:decide (ae u<ae v)=b) :
  Calls Tryz.prog 97 #[.int .u64 u,.int .u64 v] w fun e w'=>e=.returned (.bool b)∧w=w':=by
 have H1:=hideS fun w=>turned (kn u w h)
 have H2:=hideS fun w=>turned (kn v w h')
 rw [hn] at H1
 rw [hn'] at H2
 generalize ae u=a at *
 generalize ae v=c at *
 clear hn hn' h h'
 go_enter Tryz.func97,Tryz.ntmps97
 go_wp2_with fail
 refine (H1.out _).mono ?_
 rintro e w' ⟨rfl,rfl⟩
 go_wp2_with fail
 refine (H2.out _).mono ?_
 rintro e w' ⟨rfl,rfl⟩
 go_wp2_with fail
 go_ret
 exact⟨rfl,rfl⟩

theorem jo {S k F E:Int} (hE:0<E) (h1:k*E≤S) (h2:S<(k+1)*E) (h3:F*E≤S) (h4:S<(F+1)*E):k=F:=by
 have a:k<F+1:=by
  by_cases c:k<F+1
  ·exact c
  ·have:=Int.mul_le_mul_of_nonneg_right (show F+1≤k by omega) (show 0≤E by omega);omega
 have b:F<k+1:=by
  by_cases c:F<k+1
  ·exact c
  ·have:=Int.mul_le_mul_of_nonneg_right (show k+1≤F by omega) (show 0≤E by omega);omega
 omega
def qh (neg:Bool) (q:Nat) (lost:Bool):Int:=if neg then (if lost then -(q:Int) - 1 else -(q:Int)) else (q:Int)
theorem qj {neg:Bool} {N P:Nat} (hP:0<P):qh neg (N / P) (decide (N % P≠0))*(P:Int)≤sg neg N∧sg neg N<(qh neg (N / P) (decide (N % P≠0))+1)*(P:Int):=by
 have h1:=Nat.div_add_mod N P
 have h2:N % P<P:=Nat.mod_lt _ hP
 have h3:((P*(N / P):Nat):Int)=(N / P:Nat)*(P:Int):=by rw [Int.natCast_mul,Int.mul_comm]
 generalize N / P=q at *
 generalize N % P=r at *
 generalize P*q=t at *
 unfold qh sg
 cases neg
 ·simp only [Bool.false_eq_true,if_false]
  rw [Int.add_mul,Int.one_mul];omega
 ·simp only [if_true]
  by_cases hr:r=0
  ·rw [show decide (r≠0)=false by simpa using hr]
   simp only [Bool.false_eq_true,if_false]
   rw [Int.add_mul,Int.one_mul,Int.neg_mul];omega
  ·rw [show decide (r≠0)=true by simpa using hr]
   simp only [if_true]
   rw [Int.add_mul,Int.one_mul,Int.sub_mul,Int.one_mul,Int.neg_mul];omega

set_option maxHeartbeats 1600000 in
theorem sj (t:Nat) (v k:Int) (K:Nat) (w:World) (hv:Hid (v=(t:Int))) (h:U64 v) (ht:af t) (hK:K=1074) (h1:k*((2^K:Nat):Int)≤vI t) (h2:vI t<(k+1)*((2^K:Nat):Int)) (k1: -2000≤k) (k2:k≤2000) :
  Calls Tryz.prog 174 #[.int .u64 v] w fun e w'=>e=.returned (.int .i64 k)∧Below w.heap.size w w':=by
 have HO:=hideS fun w=>eC t v w hv h ht
 have HF:Hid (∀ neg N e,OfR t neg N e→(N=0→k=0)∧(N≠0→∃ P:Nat,e= -(P:Int)∧1≤P∧P≤1074∧k=qh neg (N / 2^P) (decide (N % 2^P≠0)))):=fun neg N e ho=>by
  have hp:(0:Int)<((2^K:Nat):Int):=by have:=Nat.two_pow_pos K;omega
  have hval:vI t=sg neg N*((2^(e+1074).toNat:Nat):Int):=by
   rw [rY,← ho.val,fF]
   by_cases h0:N=0
   ·rw [h0,aY,aY]
   ·rw [ho.sgn h0]
  constructor
  ·intro h0
   rw [h0,aY,Int.zero_mul] at hval
   rw [hval] at h1 h2
   exact jo hp h1 h2 (by rw [Int.zero_mul];exact Int.le_refl _) (by rw [Int.zero_add,Int.one_mul];exact hp)
  ·intro h0
   have hlo:=ho.lo
   have hneg:e<0:=by
    obtain⟨m1,m2⟩:=ho.mag h0
    by_cases c:e<0
    ·exact c
    ·exfalso
     have hpl:1074≤pl (t % 9223372036854775808):=by omega
     have hmg:4503599627370496≤N:=by rw [m1];exact wL (by unfold pl at hpl;omega)
     have hb:(vI t).natAbs=N*2^(e+1074).toNat:=by rw [hval,Int.natAbs_mul,dj,Int.natAbs_natCast]
     have hp2:2^K≤2^(e+1074).toNat:=Nat.pow_le_pow_right (by decide) (by omega)
     have h5:4503599627370496*2^K≤N*2^(e+1074).toNat:=Nat.mul_le_mul hmg hp2
     have h6:=Int.mul_le_mul_of_nonneg_right k1 (show 0≤((2^K:Nat):Int) by omega)
     have h7:=Int.mul_le_mul_of_nonneg_right (show k+1≤2001 by omega) (show 0≤((2^K:Nat):Int) by omega)
     generalize N*2^(e+1074).toNat=a at *
     generalize 2^K=b at *
     generalize (k+1)*(b:Int)=c1 at *
     generalize k*(b:Int)=c2 at *
     omega
   refine⟨(-e).toNat,by omega,by omega,by omega,?_⟩
   have hpe:(2^K:Nat)=2^(-e).toNat*2^(e+1074).toNat:=by rw [← Nat.pow_add];congr 1;omega
   have hq:(0:Int)<((2^(e+1074).toNat:Nat):Int):=by have:=Nat.two_pow_pos (e+1074).toNat;omega
   have hP:0<2^(-e).toNat:=Nat.two_pow_pos _
   rw [hpe,Int.natCast_mul,← Int.mul_assoc,hval] at h1 h2
   obtain⟨f1,f2⟩:=qj (neg:=neg) (N:=N) hP
   exact jo (by omega) (Int.le_of_mul_le_mul_right h1 hq) (Int.lt_of_mul_lt_mul_right h2 (by omega)) f1 f2
 clear h ht h1 h2
 go_enter Tryz.func174,Tryz.ntmps174
 go_wp2_with fail
 refine (HO.out _).mono ?_
 rintro r w1 ⟨neg,vx,N,e,rfl,hdx,hX,hb1⟩
 obtain⟨p,l,c,rfl⟩:=hdx.shape
 obtain⟨g1,g2⟩:=HF.out neg N e hX
 have HBox:=hideS (aH w1 neg (.slice p l c) e)
 have HDb:=hideS (hdx.below HBox.out)
 have HB1:=hideS (hb1.trans (HBox.out.mono hb1.size))
 have HNl:=hideS hX.lt
 clear hX hdx hb1 HO HF
 go_wp2_with fail
 by_cases h0:N=0
 ·have hk:=g1 h0
  clear g1 g2
  refine (aR _ _ _ N true _ HDb.out (decide_eq_true h0)).mono ?_
  rintro r w2 ⟨rfl,hb2⟩
  have HB2:=hideS (HB1.out.trans (hb2.mono HB1.out.size))
  have HK:=hideS hk
  clear hb2 hk h0
  go_wp2_with fail
  go_ret
  exact⟨bW HK.out.symm,HB2.out⟩
 ·obtain⟨P,hP,hP1,hP2,hk⟩:=g2 h0
  clear g1 g2
  have hQl:N / 2^P<9007199254740992:=Nat.lt_of_le_of_lt (Nat.div_le_self _ _) HNl.out
  refine (aR _ _ _ N false _ HDb.out (decide_eq_false h0)).mono ?_
  rintro r w2 ⟨rfl,hb2⟩
  obtain⟨c0,c1,c2⟩:=gM hb2
  have hz2:w1.heap.size<w2.heap.size:=by have:=hb2.size;simp at this;omega
  have HB2:=hideS (HB1.out.trans (hb2.mono HB1.out.size))
  have he:e<0:=by omega
  have he2: -1074≤e:=by omega
  have HPe:Hid (-e=(P:Int)):=by show _=_;omega
  have HSh:=hideS (fu (.slice p l c) N P (-e) w2 (HDb.out.below hb2) (by have:=dy HNl.out;omega) HPe)
  have h3:=fq (K:=N / 2^P) (by omega)
  have b0:=aX (N / 2^P) 0
  have b1:dgt (N / 2^P) 1≤2097152:=by omega
  obtain⟨q0,hq0⟩:∃ q0:Int,(dgt (N / 2^P) 0:Int)=q0:=⟨_,rfl⟩
  obtain⟨q1,hq1⟩:∃ q1:Int,(dgt (N / 2^P) 1:Int)=q1:=⟨_,rfl⟩
  obtain⟨Q,hQ⟩:∃ Q:Int,((N / 2^P:Nat):Int)=Q:=⟨_,rfl⟩
  have hsum:q0+q1*4294967296=Q:=by omega
  have d0:0≤q0∧q0<4294967296:=by omega
  have d1:0≤q1∧q1≤2097152:=by omega
  have hQ0:0≤Q∧Q<9007199254740992:=by omega
  have HK:Hid (k=if neg then (if bH N P then -Q - 1 else -Q) else Q):=by
   show _=_
   rw [← hQ];exact hk
  have HD0:=hideS hq0
  have HD1:=hideS hq1
  clear hb2 hk h0 hP hP1 hP2 h3 b0 b1 hq0 hq1 hQ hQl HPe
  obtain⟨d0a,d0b⟩:=d0
  obtain⟨d1a,d1b⟩:=d1
  obtain⟨hQa,hQb⟩:=hQ0
  go_wp2_with fail
  refine HSh.out.mono ?_
  rintro r w3 ⟨v3,rfl,hd3,hb3⟩
  have HB3:=hideS (HB2.out.trans (hb3.mono HB2.out.size))
  have e0:w3.cell? ⟨w1.heap.size,0,none⟩=some (.bool neg):=(hb3.cell (p:=⟨w1.heap.size,0,none⟩) hz2).trans c0
  have HD3:=hideS hd3
  clear hb3 hd3 c0 c1 c2 HSh
  generalize bH N P=lost at HK ⊢
  go_wp2_with fail
  refine (turned (dN v3 (N / 2^P) 0 0 q0 _ HD3.out rfl HD0)).mono ?_
  rintro r w' ⟨rfl,rfl⟩
  go_wp2_with fail
  refine (turned (dN v3 (N / 2^P) 1 1 q1 _ HD3.out rfl HD1)).mono ?_
  rintro r w' ⟨rfl,rfl⟩
  clear HD3 HD0 HD1
  cases neg<;>cases lost
  all_goals
   go_wp2_with fail
   go_ret
   exact⟨bW HK.out.symm,HB3.out⟩
end Go.Proofs.YtjjlnmihkadlmaaGreat
namespace Go.Proofs.YtjjlnmihkadlmaaGreat

theorem jp {M s:Nat} {p:Int} (h0:M≠0) (h:s+54≤M.log2):nearR (bZ M s false) (s+p)=nearR M p:=by
 obtain⟨h1,_⟩:=cY false (show s≤M.log2 by omega) h0
 have hL:ao (bZ M s false) (s+p)=ao M p:=by
  unfold ao;rw [h1];congr 1;omega
 have hL2:(s:Int)+p+2≤ao M p:=by unfold ao;omega
 unfold nearR
 rw [hL]
 obtain⟨d,hd⟩:∃ d:Nat,ao M p=s+p+d:=⟨(ao M p - (s+p)).toNat,by omega⟩
 have e1:((s:Int)+p - ao M p).toNat=0:=by omega
 have e2:(p - ao M p).toNat=0:=by omega
 have e3:(ao M p - (s+p)).toNat=d:=by omega
 have e4:(ao M p - p).toNat=d+s:=by omega
 rw [e1,e2,e3,e4,Nat.pow_zero,Nat.mul_one,Nat.mul_one]
 have hs:bZ M s false=(if M % 2^s=0 then M / 2^s else (if M / 2^s % 2=1 then M / 2^s else M / 2^s+1)):=by unfold bZ;simp only [and_true]
 rw [hs,lJ (by omega)]
def bf (X Y k:Nat):Nat:=2*(X*2^k / Y)+(if X*2^k % Y=0 then 0 else 1)
theorem Bw {q e T:Nat} {t:Nat} (hT:T=2^t) (he:e<2*T):bZ (2*q*T+e) t false=2*q+(if e=0 then 0 else 1):=by
 have hp:0<T:=by rw [hT];exact Nat.two_pow_pos t
 unfold bZ
 rw [← hT]
 have hd:(2*q*T+e) / T=2*q+e / T:=by rw [Nat.add_comm,Nat.add_mul_div_right _ _ hp,Nat.add_comm]
 have hm:(2*q*T+e) % T=e % T:=by rw [Nat.add_comm,Nat.add_mul_mod_self_right]
 rw [hd,hm]
 by_cases h0:e=0
 ·rw [h0,Nat.zero_mod,Nat.zero_div,if_pos ⟨rfl,rfl⟩,if_pos rfl]
 ·rw [if_neg h0]
  by_cases h1:e<T
  ·rw [Nat.mod_eq_of_lt h1,Nat.div_eq_of_lt h1,if_neg (fun h=>h0 h.1),if_neg (by omega)]
  ·have h2:e / T=1:=by
    have:=Nat.div_lt_iff_lt_mul hp (x:=e) (y:=2)
    have h3:e / T<2:=this.2 he
    have h4:1≤e / T:=(Nat.one_le_div_iff hp).2 (by omega)
    omega
   rw [h2]
   by_cases h3:e % T=0∧(false:Bool)=false
   ·rw [if_pos h3]
   ·rw [if_neg h3,if_pos (by omega)]
theorem yw {X Y:Nat} (k t:Nat) (hY:0<Y):bZ (bf X Y (k+t)) t false=bf X Y k:=by
 obtain⟨T,hT⟩:∃ T,T=2^t:=⟨_,rfl⟩
 have hp:0<T:=by rw [hT];exact Nat.two_pow_pos t
 unfold bf
 rw [Nat.pow_add,← Nat.mul_assoc,← hT]
 generalize X*2^k=A
 have hA:=Nat.div_add_mod A Y
 have hr:A % Y<Y:=Nat.mod_lt _ hY
 generalize A / Y=q at *
 generalize A % Y=r at *
 have hAT:A*T=r*T+Y*(q*T):=by rw [← hA,Nat.add_mul,Nat.mul_assoc,Nat.add_comm]
 have hd:A*T / Y=q*T+r*T / Y:=by rw [hAT,Nat.add_mul_div_left _ _ hY,Nat.add_comm]
 have hm:A*T % Y=r*T % Y:=by rw [hAT,Nat.add_mul_mod_self_left]
 rw [hd,hm]
 have hc:r*T / Y<T:=by rw [Nat.div_lt_iff_lt_mul hY,Nat.mul_comm T];exact Nat.mul_lt_mul_of_pos_right hr hp
 have e1:=Nat.div_add_mod (r*T) Y
 have h5:r=0↔r*T=0:=by
  constructor
  ·intro h;rw [h,Nat.zero_mul]
  ·intro h;rcases Nat.mul_eq_zero.1 h with h | h<;>omega
 have e2:2*(q*T+r*T / Y)+(if r*T % Y=0 then 0 else 1)=2*q*T+(2*(r*T / Y)+(if r*T % Y=0 then 0 else 1)):=by rw [Nat.mul_add,← Nat.mul_assoc,Nat.add_assoc]
 rw [e2]
 generalize r*T / Y=c at *
 generalize r*T % Y=s at *
 generalize r*T=rt at *
 rw [Bw hT (by split<;>omega)]
 congr 1
 by_cases h0:r=0
 ·have h6:rt=0:=h5.1 h0
  have h7:s=0:=by omega
  have h8:c=0:=by
   by_cases hcc:c=0
   ·exact hcc
   ·have:=Nat.mul_pos hY (show 0<c by omega);omega
  rw [if_pos h0,if_pos (by rw [h7,h8];rfl)]
 ·have h6:rt≠0:=fun h=>h0 (h5.2 h)
  rw [if_neg h0,if_neg]
  intro h
  by_cases hs:s=0
  ·rw [if_pos hs] at h
   have hc0:c=0:=by omega
   rw [hc0,Nat.mul_zero] at e1;omega
  ·rw [if_neg hs] at h;omega
theorem Bz {X Y k1 k2:Nat} {p:Int} (hY:0<Y) (hk:k1≤k2) (hb:54≤(bf X Y k1).log2):nearR (bf X Y k1) (p - k1)=nearR (bf X Y k2) (p - k2):=by
 obtain⟨t,rfl⟩:∃ t,k2=k1+t:=⟨k2 - k1,by omega⟩
 have hs:=yw (X:=X) k1 t hY
 obtain⟨M,hM⟩:∃ M,bf X Y (k1+t)=M:=⟨_,rfl⟩
 rw [hM] at hs ⊢
 have hq0:bf X Y k1≠0:=by intro h;rw [h] at hb;exact absurd hb (by decide)
 have h1:=Nat.log2_self_le hq0
 have h2:(2:Nat)^54≤2^(bf X Y k1).log2:=Nat.pow_le_pow_right (by decide) hb
 have h3:bZ M t false≤M / 2^t+1:=by unfold bZ;split;omega;split<;>omega
 have h4:1≤M / 2^t:=by rw [hs] at h3;omega
 have h5:2^t≤M:=(Nat.one_le_div_iff (Nat.two_pow_pos _)).1 h4
 have hM0:M≠0:=by have:=Nat.two_pow_pos t;omega
 have h6:t≤M.log2:=(Nat.le_log2 hM0).2 h5
 have h7:=(cY false h6 hM0).1
 rw [hs] at h7
 have:=jp (M:=M) (s:=t) (p:=p - ((k1+t:Nat):Int)) hM0 (by omega)
 rw [hs,show (t:Int)+(p - ((k1+t:Nat):Int))=p - k1 by omega] at this
 exact this
theorem sk {X Y k:Nat} (hX:X≠0) (hY:Y≠0) (hk:54+Y.log2≤X.log2+k):9007199254740992≤X*2^k / Y∧54≤(bf X Y k).log2:=by
 have h1:=Nat.log2_self_le hX
 have h2:Y<2^(Y.log2+1):=Nat.lt_log2_self
 have h3:9007199254740992≤X*2^k / Y:=by
  rw [Nat.le_div_iff_mul_le (by omega)]
  refine Nat.le_trans (Nat.mul_le_mul_left _ (Nat.le_of_lt h2)) ?_
  refine Nat.le_trans ?_ (Nat.mul_le_mul_right _ h1)
  rw [show (9007199254740992:Nat)=2^53 from rfl,← Nat.pow_add,← Nat.pow_add]
  exact Nat.pow_le_pow_right (by decide) (by omega)
 refine⟨h3,?_⟩
 have h4:2^54≤bf X Y k:=by unfold bf;omega
 exact (Nat.le_log2 (by have:=Nat.two_pow_pos 54;omega)).2 h4
theorem uZ {N d:Nat} (hd:1≤d):kp N d true=rne (2*N+1) (d+1):=by
 unfold kp rne
 have hp:=Nat.two_pow_pos d
 have e1:(2*N+1) / 2^(d+1)=N / 2^d:=by
  rw [Nat.pow_succ,Nat.mul_comm (2^d) 2,← Nat.div_div_eq_div_mul];congr 1;omega
 have e2:(2*N+1) % 2^(d+1)=2*(N % 2^d)+1:=by
  have a:=Nat.div_add_mod (2*N+1) (2^(d+1))
  have b:=Nat.div_add_mod N (2^d)
  rw [e1,Nat.pow_succ] at a
  have c:2^d*2*(N / 2^d)=2*(2^d*(N / 2^d)):=by rw [Nat.mul_comm (2^d) 2,Nat.mul_assoc]
  rw [Nat.pow_succ]
  omega
 rw [e1,e2]
 congr 1
 obtain⟨k,rfl⟩:∃ k,d=k+1:=⟨d - 1,by omega⟩
 rw [Nat.add_sub_cancel]
 have e:N % 2^(k+1)=N % 2^k+2^k*(N / 2^k % 2):=by rw [Nat.pow_succ,Nat.mod_mul]
 have hk:=Nat.two_pow_pos k
 have hlt:N % 2^k<2^k:=Nat.mod_lt _ hk
 rw [e,Nat.pow_succ,Nat.pow_succ]
 rcases (show N / 2^k % 2=0∨N / 2^k % 2=1 by omega) with hb | hb
 ·rw [hb,if_neg (by omega),if_neg (by omega)]
 ·rw [hb,Nat.mul_one,if_pos ⟨rfl,Or.inr (Or.inl rfl)⟩,if_pos (Or.inl (by omega))]
theorem BA (neg:Bool) {a b:Nat} (h:min a 9218868437227405312=b):bR neg (a:Int)=bR neg (b:Int):=by
 unfold bR
 cases neg<;>simp only [Bool.false_eq_true,if_true,if_false]<;>omega
theorem Eq (neg:Bool) {r:Nat} (h:r≤9218868437227405312):bR neg (r:Int)=gn neg+(r:Int):=by
 unfold bR gn
 cases neg<;>simp only [Bool.false_eq_true,if_true,if_false]<;>omega
theorem ve (neg more:Bool) {N:Nat} (e:Int) (hN:9007199254740992≤N):bO neg N e more=gn neg+(nearR (2*N+(if more then 1 else 0)) (e - 1):Int):=by
 have h0:N≠0:=by omega
 cases more with
 | false=>
  have e0:(2*N+(if (false:Bool)=true then 1 else 0))=2*N:=rfl
  rw [eN neg e h0,e0]
  have:=bn h0 1 e
  rw [Nat.pow_one,Nat.mul_comm] at this
  rw [show e - 1=e - ((1:Nat):Int) from rfl,this];rfl
 | true=>
  rw [if_pos rfl]
  have hlog:(2*N+1).log2=N.log2+1:=by
   rw [Nat.log2_def,if_pos (by omega),show (2*N+1) / 2=N by omega]
  have hlg:53≤N.log2:=(Nat.le_log2 h0).2 (by omega)
  have hbl:=gc h0
  have hL:ao (2*N+1) (e - 1)=ao N e:=by unfold ao;rw [hlog];congr 1;omega
  have hl:aA N e=ao N e:=by unfold aA ao;rw [hbl];omega
  have hgt:e<ao N e:=by unfold ao;omega
  have key:(if hU N e=true then if 0<e∨0<(bl N:Int)+e then bR neg 9218868437227405312 else bR neg 0 else bR neg (rnd53 N e true))=bR neg (nearR (2*N+1) (e - 1)):=by
   cases hf:hU N e
   ·simp only [Bool.false_eq_true,if_false]
    have e2:min (rnd53 N e true) 9218868437227405312=nearR (2*N+1) (e - 1):=by
     unfold rnd53 iq nearR
     rw [hL,hl,if_neg (by omega),uZ (by omega),show (e - 1 - ao N e).toNat=0 by omega,Nat.pow_zero,Nat.mul_one,show (ao N e - (e - 1)).toNat=(ao N e - e).toNat+1 by omega]
    exact BA neg e2
   ·simp only [if_true]
    unfold hU at hf
    rw [Bool.or_eq_true,decide_eq_true_eq,decide_eq_true_eq] at hf
    rcases hf with hf | hf
    ·rw [if_pos (Or.inr (by omega)),gH (by omega) (by omega)];rfl
    ·have h1:bl (2*N+1)=bl N+1:=by rw [gc (by omega),hlog,hbl]
     rw [if_neg (by omega),lB (by omega) (by rw [h1];omega)];rfl
  unfold bO
  rw [if_neg h0,key]
  exact Eq neg (Nat.min_le_right _ _)
end Go.Proofs.YtjjlnmihkadlmaaGreat
namespace Go.Proofs.YtjjlnmihkadlmaaGreat
open Go.RowKit

theorem Er (A i j r:Nat) (hj:i=32*j+r) (hr:r<32):dgt A j / 2^r % 2=A / 2^i % 2:=by
 unfold dgt
 have e:A / 2^i=A / 2^(32*j) / 2^r:=by rw [Nat.div_div_eq_div_mul,← Nat.pow_add,← hj]
 rw [e]
 generalize A / 2^(32*j)=M
 have e2:(4294967296:Nat)=2^r*2^(32 - r):=by rw [← Nat.pow_add,show r+(32 - r)=32 by omega]
 rw [e2,Nat.mod_mul_right_div_self]
 refine Nat.mod_mod_of_dvd _ ?_
 rw [show 32 - r=(31 - r)+1 by omega,Nat.pow_succ]
 exact Nat.dvd_mul_left 2 _
theorem Es {A B i R b:Nat} (hB:0<B) (hR:R=A / 2^(i+1) % B) (hb:b=A / 2^i % 2) :
  (B≤R*2+b→A / 2^i % B=R*2+b - B∧A / 2^i / B*2^i=A / 2^(i+1) / B*2^(i+1)+2^i)∧
  (R*2+b<B→A / 2^i % B=R*2+b∧A / 2^i / B*2^i=A / 2^(i+1) / B*2^(i+1)):=by
 have e:A / 2^(i+1)=A / 2^i / 2:=by rw [Nat.div_div_eq_div_mul,← Nat.pow_succ]
 rw [e] at hR ⊢
 generalize A / 2^i=M at *
 have h1:=Nat.div_add_mod (M / 2) B
 have h2:M / 2 % B<B:=Nat.mod_lt _ hB
 rw [← hR] at h1 h2
 generalize M / 2 / B=q at *
 have e3:q*2^(i+1)=2*q*2^i:=by rw [Nat.pow_succ,← Nat.mul_assoc,Nat.mul_comm,← Nat.mul_assoc]
 rw [e3]
 refine⟨fun c=>?_,fun c=>?_⟩
 ·have hM:M=(R*2+b - B)+B*(2*q+1):=by
   have:B*(2*q+1)=2*(B*q)+B:=by rw [Nat.mul_add,Nat.mul_one,Nat.mul_left_comm]
   omega
  have m1:M % B=R*2+b - B:=by rw [hM,Nat.add_mul_mod_self_left,Nat.mod_eq_of_lt (by omega)]
  have m2:M / B=2*q+1:=by rw [hM,Nat.add_mul_div_left _ _ hB,Nat.div_eq_of_lt (by omega),Nat.zero_add]
  rw [m1,m2,Nat.add_mul,Nat.one_mul]
  exact⟨rfl,rfl⟩
 ·have hM:M=(R*2+b)+B*(2*q):=by
   have:B*(2*q)=2*(B*q):=by rw [Nat.mul_left_comm]
   omega
  have m1:M % B=R*2+b:=by rw [hM,Nat.add_mul_mod_self_left,Nat.mod_eq_of_lt (by omega)]
  have m2:M / B=2*q:=by rw [hM,Nat.add_mul_div_left _ _ hB,Nat.div_eq_of_lt (by omega),Nat.zero_add]
  rw [m1,m2]
  exact⟨rfl,rfl⟩
theorem Et {Q i j r:Nat} (hj:i=32*j+r) (hr:r<32) :
  dgt (Q*2^(i+1)) j+2^r<4294967296∧ia (Q*2^(i+1)) j (dgt (Q*2^(i+1)) j+2^r)=Q*2^(i+1)+2^i:=by
 constructor
 ·unfold dgt
  have e:Q*2^(i+1)=Q*2^(r+1)*2^(32*j):=by rw [Nat.mul_assoc,← Nat.pow_add];congr 2;omega
  have e2:(4294967296:Nat)=2^(31 - r)*2^(r+1):=by rw [← Nat.pow_add,show 31 - r+(r+1)=32 by omega]
  rw [e,Nat.mul_div_cancel _ (Nat.two_pow_pos _)]
  have h1:Q*2^(r+1) % 4294967296=(Q % 2^(31 - r))*2^(r+1):=by rw [e2,Nat.mul_mod_mul_right]
  have h2:Q % 2^(31 - r)<2^(31 - r):=Nat.mod_lt _ (Nat.two_pow_pos _)
  have h3:(Q % 2^(31 - r)+1)*2^(r+1)≤2^(31 - r)*2^(r+1):=Nat.mul_le_mul_right _ h2
  rw [← e2,Nat.add_mul,Nat.one_mul,Nat.pow_succ] at h3
  rw [h1,Nat.pow_succ]
  have h4:=Nat.two_pow_pos r
  omega
 ·have h:=lF (Q*2^(i+1)) j (dgt (Q*2^(i+1)) j+2^r)
  rw [Nat.add_mul,← Nat.pow_add,show r+32*j=i by omega] at h
  omega
theorem bE {A B:Nat} {v:Value} (h:From B v) (hle:A≤B):From A v:=fun a l c e=>Nat.le_trans hle (h a l c e)
theorem dR {w:World} {v:Value} {N:Nat} (h:DN w v N):∃ p l c,v=.slice p l c:=by obtain⟨p,c,e⟩:=h.form;exact⟨p,_,c,e⟩
theorem fI {w w':World} {b n M s:Nat} (h:Own w b n M) (hb:b<s) (hB:Below s w w'):Own w' b n M:=by
 obtain⟨c,h1,h2,h3⟩:=h
 exact⟨c,by rw [hB.block b hb];exact h1,h2,h3⟩
theorem FU (N:Nat):bl N≤32*nd N:=by
 unfold bl nd
 by_cases h:N=0
 ·rw [if_pos h];omega
 ·rw [if_neg h,if_neg h];omega
theorem FW (w:World):DN (w.alloc (.cells #[.int .u64 1] 57)) (.slice (some ⟨w.heap.size,0,none⟩) 1 1) 1:=by
 refine Or.inr ⟨by decide,w.heap.size,1,by rw [show nd 1=1 by decide],by decide,by simp,fun i hi=>?_⟩
 rw [show nd 1=1 by decide] at hi
 rw [show i=0 by omega]
 simp
 decide

set_option maxRecDepth 10000 in
set_option maxHeartbeats 1600000 in
theorem nJ (g c n L A B:Nat) (vb:Value) (w:World) (hrow:Hid (RowIs w g n A)) (hg:g<w.heap.size) (hA0:A≠0) (hn0:Hid (nd A=n)) (hnc:n≤c) (hL:Hid (bl A=L)) (hLn:L≤32*n) (hB:DN w vb B) (hB0:0<B) (hn:n≤10000) (hbd:nd B≤10000) :
  Calls Tryz.prog 146 #[.slice (some ⟨g,0,none⟩) n c,vb] w fun e w'=>∃ q r,e=.returned (.tuple #[q,r])∧DN w' q (A / B)∧DN w' r (A % B)∧From w.heap.size q∧From w.heap.size r∧Below w.heap.size w w':=by
 have hmk:=fun w=>run_make_row' (P:=Tryz.prog) 30 57 (.int .u64 0) 8 Tryz.underlying30 dq rfl .i64 .i64 n (by omega) (by omega) w
 have HO:=aa (lv w n)
 have HW0:Hid (Below w.heap.size w (w.alloc (.cells (madeCells #[.int .u64 0] n) 57))):=(Below.refl _ _).alloc (Nat.le_refl _) _
 have HDA:Hid (DN w (.slice (some ⟨g,0,none⟩) n c) A):=Or.inr ⟨hA0,g,c,by rw [hn0.out],by rw [hn0.out];exact hnc,hg,by rw [hn0.out];exact hrow.out⟩
 have HLen:Hid (∀ w',Below w.heap.size w w'→Calls Tryz.prog 145 #[.slice (some ⟨g,0,none⟩) n c] w' fun e w''=>e=.returned (.int .i64 (L:Int))∧w'=w''):=fun w' hb=>by
  have:=kS _ A w' (HDA.out.below hb) (by rw [hn0.out];omega)
  rw [hL.out] at this
  exact this.mono fun _ _ ⟨a,b⟩=>⟨a,b.symm⟩
 have HB:=aa hB
 have HAlt:Hid (A<2^L):=by
  show A<2^L
  rw [← hL.out];unfold bl;rw [if_neg hA0];exact Nat.lt_log2_self
 clear hB
 go_enter Tryz.func146,Tryz.ntmps146
 go_wp2_with fail
 refine (HLen.out _ HW0.out).mono ?_
 rintro e w' ⟨rfl,rfl⟩
 go_wp2_with fail
 go_loopw [6,8] (fun v i wr=>∃ k:Nat,k≤L∧i=.int .i64 ((k:Int) - 1)∧Hid (DN wr v (A / 2^k % B))∧Hid (From (w.heap.size+1) v)∧Hid (Own wr w.heap.size n (A / 2^k / B*2^k))∧Hid (Below w.heap.size w wr)) (fun _ i _=>(intOf i+1).toNat)
 case atStart=>
  have e:A / 2^L=0:=Nat.div_eq_of_lt HAlt.out
  exact⟨L,Nat.le_refl _,rfl,by rw [e,Nat.zero_mod];exact Or.inl ⟨rfl,_,_,rfl⟩,iY _,by rw [e,Nat.zero_div,Nat.zero_mul];exact HO,HW0⟩
 case round=>
  clear HO hmk HW0
  obtain⟨k,hk,rfl,HD,HFr,HOwn,HBl⟩:=hrel
  cases k with
  | zero=>
   rw [Nat.pow_zero,Nat.div_one] at HD HOwn
   rw [Nat.mul_one] at HOwn
   have hM:Hid (A / B<2^(32*n)):=Nat.lt_of_le_of_lt (Nat.div_le_self _ _) (by rw [← hn0.out];exact cG A)
   have hlt2:=HOwn.out.lt
   have HQ:=aa (kq HOwn.out.row hM.out (Nat.le_refl _) hlt2)
   go_wp2_with fail
   refine (cN _ _ _ _ _ HOwn.out.row hM.out (Nat.le_refl _) (by omega)).mono ?_
   rintro e w' ⟨rfl,rfl⟩
   go_wp2_with fail
   go_ret2
   exact⟨_,_,rfl,HQ.out,HD.out,ft _ _ _ _ (Nat.le_refl _),bE HFr.out (by omega),HBl.out⟩
  | succ i=>
   have hz:w.heap.size<wr.heap.size:=HOwn.out.lt
   obtain⟨R,hR⟩:∃ R,R=A / 2^(i+1) % B:=⟨_,rfl⟩
   rw [← hR] at HD
   obtain⟨pv,cv,rfl⟩:=HD.out.form
   have hRB:R<B:=by rw [hR];exact Nat.mod_lt _ hB0
   have HRd:Hid (nd R≤10000000):=by
    have h1:R<2^(32*nd B):=Nat.lt_trans hRB (cG B)
    have:=ct h1
    show nd R≤10000000
    omega
   obtain⟨b,hb⟩:∃ b,b=A / 2^i % 2:=⟨_,rfl⟩
   have HBit:=aa (Es hB0 hR hb)
   obtain⟨S,hS⟩:∃ S,R*2+b=S:=⟨_,rfl⟩
   rw [hS] at HBit
   have hSB:S<2*B:=by
    have:b<2:=by rw [hb];exact Nat.mod_lt _ (by decide)
    omega
   have HSd:Hid (nd S≤10000000):=by
    have h1:S<2^(32*(nd B+1)):=by
     have:=cG B
     rw [eM];omega
    have:=ct h1
    show nd S≤10000000
    omega
   obtain⟨j,r,hij,hr⟩:∃ j r,i=32*j+r∧r<32:=⟨i / 32,i % 32,by omega,by omega⟩
   have hjn:j<n:=by omega
   have hq:(i:Int) / 32=j:=by omega
   have hrr:(i:Int) % 32=r:=by omega
   have HIJ:=aa hij
   have hrow2:=hrow.out j hjn
   have hca:wr.cell? ⟨g,j,none⟩=some (.int .u64 (dgt A j:Int)):=(HBl.out.cell (p:=⟨g,j,none⟩) hg).trans (hrow.out j hjn)
   have hbit:((dgt A j:Int) / 2^r).tmod 2=b:=by
    have:=Er A i j r hij hr
    rw [← hb] at this
    rw [← this]
    have e1:((2:Int)^r)=((2^r:Nat):Int):=by rw [Int.natCast_pow];rfl
    rw [e1,← Int.natCast_ediv,Int.tmod_eq_emod_of_nonneg (Int.natCast_nonneg _)];rfl
   have HPut:=aa (Et (Q:=A / 2^(i+1) / B) hij hr)
   have hdl:=aX A j
   generalize dgt A j=D at hca hbit hdl
   have HSh:Hid (Calls Tryz.prog 147 #[.slice pv (nd R) cv,.int .i64 1] wr fun e w'=>∃ v,e=.returned v∧DN w' v (R*2)∧From wr.heap.size v∧Below wr.heap.size wr w'):=gf _ R 1 wr HD.out HRd.out (by omega)
   have hS2:b=0∧R*2=S∨b=1∧R*2+1=S:=by
    have:b<2:=by rw [hb];exact Nat.mod_lt _ (by decide)
    omega
   clear hR hb HD HFr hS hij hrow2
   generalize nd R=lR at *
   have hi1:((i+1:Nat):Int) - 1=i:=by omega
   rw [hi1]
   go_wp2_with fail
   refine HSh.out.mono ?_
   rintro e w1 ⟨v1,rfl,hd1,hf1,hb1⟩
   obtain⟨p1,l1,c1,rfl⟩:=dR hd1
   have hca1:w1.cell? ⟨g,j,none⟩=some (.int .u64 (D:Int)):=(hb1.cell (p:=⟨g,j,none⟩) (Nat.lt_of_lt_of_le hg HBl.out.size)).trans hca
   have hz1:wr.heap.size≤w1.heap.size:=hb1.size
   have HB1:=aa hb1
   clear hb1 HSh hca
   rcases hS2 with⟨rfl,hS⟩| ⟨rfl,hS⟩
   ·have hbt:(((D:Int) / 2^r).tmod 2==1)=false:=by rw [hbit];rfl
    clear hbit
    rw [hS] at hd1
    have HD1:=aa hd1
    have HF1:=aa hf1
    clear hd1 hf1 hS
    go_wp2_with fail
    have HX1:=HB1
    by_cases hc:B≤S
    ·obtain⟨t,ht,ht0⟩:∃ t:Int,jP S B=t∧0≤t:=by
      rcases Nat.lt_or_eq_of_le hc with h | h
      ·exact⟨1,jd h,by decide⟩
      ·exact⟨0,jc h.symm,by decide⟩
     have HBw:=aa (HBl.out.trans (HX1.out.mono HBl.out.size))
     have HCmp:Hid (Calls Tryz.prog 126 #[.slice p1 l1 c1,vb] w1 fun e w'=>e=.returned (.int .i64 t)∧∃ q,w'=w1.drewN q):=by
      rw [← ht];exact ck _ _ S B w1 HD1.out (HB.out.below HBw.out) HSd.out
     refine HCmp.out.mono ?_
     rintro e w3 ⟨rfl,q3,hq3⟩
     have HB3:Hid (Below w1.heap.size w1 w3):=by rw [hq3];exact below_drewN (Below.refl _ _) _
     have HB3w:=aa (HBw.out.trans (HB3.out.mono HBw.out.size))
     have HSub:=aa (df _ _ S B w3 (HD1.out.below HB3.out) (HB.out.below HB3w.out) HSd.out hc)
     obtain⟨hm1,hm2⟩:=HBit.out.1 hc
     rw [← hm1] at HSub
     have HM2:=aa hm2
     clear ht hm1 hm2 hq3 HCmp
     go_wp2_with fail
     refine HSub.out.mono ?_
     rintro e w4 ⟨v4,rfl,hd4,hf4,hb4⟩
     obtain⟨p4,l4,c4,rfl⟩:=dR hd4
     have HBwr:=aa (HX1.out.trans (HB3.out.mono HX1.out.size))
     have HB4r:=aa (HBwr.out.trans (hb4.mono HBwr.out.size))
     have HB4w:=aa (HB3w.out.trans (hb4.mono HB3w.out.size))
     have HO4:=aa (fI HOwn.out hz HB4r.out)
     have ho:=HO4.out.cell (i:=j) hjn
     have fo:=HO4.out.frozen j
     obtain⟨hp1,hp2⟩:=HPut.out
     rw [← HM2.out] at hp2
     have HD4:=aa hd4
     have HF4:=aa (bE hf4 (show wr.heap.size≤_ from HBwr.out.size))
     obtain⟨o,hoo⟩:∃ o,dgt (A / 2^(i+1) / B*2^(i+1)) j=o:=⟨_,rfl⟩
     rw [hoo] at ho hp1 hp2
     obtain⟨P,hP⟩:∃ P,2^r=P:=⟨_,rfl⟩
     have wp:=lw hr
     rw [hP] at wp hp1 hp2
     have e1:((2:Int)^r)=(P:Int):=by rw [← hP,Int.natCast_pow];rfl
     have ws:IntKind.u64.wrap ((o:Int)+(P:Int))=((o+P:Nat):Int):=by rw [IntKind.wrap_u64];omega
     have td:(i:Int).tdiv 32=j:=by rw [Int.tdiv_eq_ediv_of_nonneg (by omega)];exact hq
     have tm:(i:Int).tmod 32=r:=by rw [Int.tmod_eq_emod_of_nonneg (by omega)];exact hrr
     have jn:(j:Int)<(n:Int):=by omega
     have HP2:=aa hp2
     clear hd4 hf4 hb4 hoo hP hp2 HPut HBit HOwn HB3 HBw HB3w HSub HD1 HF1 HBl HB1 HX1
     go_wp2_with fail
     go_region
     have HD5:=aa (HD4.out.set (bE HF4.out hz) (a:=⟨w.heap.size,j,none⟩) (Nat.lt_succ_self _) (.int .u64 ((o:Int)+(P:Int))))
     have HO5:=aa (Own.put (j:=j) (d:=o+P) (x:=(o:Int)+(P:Int)) HO4.out (by omega) hp1)
     rw [HP2.out] at HO5
     have HB5:=aa (HB4w.out.setCell (p:=⟨w.heap.size,j,none⟩) (Nat.le_refl _) (.int .u64 ((o:Int)+(P:Int)))).drew
     clear HO4 HD4 HB4w HB4r HBwr HP2
     go_wp2_with fail
     go_roundw
     case rel=>exact⟨i,by omega,rfl,HD5,bE HF4.out hz,HO5,HB5⟩
     case measure=>simp [intOf]
    ·obtain⟨hm1,hm2⟩:=HBit.out.2 (by omega)
     have HBw:=aa (HBl.out.trans (HX1.out.mono HBl.out.size))
     have HCmp:Hid (Calls Tryz.prog 126 #[.slice p1 l1 c1,vb] w1 fun e w'=>e=.returned (.int .i64 (-1))∧∃ q,w'=w1.drewN q):=by
      rw [← jb (show S<B by omega)];exact ck _ _ S B w1 HD1.out (HB.out.below HBw.out) HSd.out
     have HO:=aa HOwn.out
     rw [← hm2] at HO
     rw [← hm1] at HD1
     refine HCmp.out.mono ?_
     rintro e w3 ⟨rfl,q3,hq3⟩
     have HB3:Hid (Below w1.heap.size w1 w3):=by rw [hq3];exact below_drewN (Below.refl _ _) _
     have HB3w:=aa (HBw.out.trans (HB3.out.mono HBw.out.size))
     have HD3:=aa (HD1.out.below HB3.out)
     have HO3:=aa (fI HO.out hz ((HX1.out.trans (HB3.out.mono HX1.out.size))))
     clear hm1 hm2 hq3 HCmp HO HOwn HB3 HBw
     go_wp2_with fail
     go_roundw
     case rel=>exact⟨i,by omega,rfl,HD3,bE HF1.out (by omega),HO3,HB3w⟩
     case measure=>simp [intOf]
   ·have hbt:(((D:Int) / 2^r).tmod 2==1)=true:=by rw [hbit];rfl
    clear hbit
    have HAdd:Hid (Calls Tryz.prog 125 #[.slice p1 l1 c1,.slice (some ⟨w1.heap.size,0,none⟩) 1 1] (w1.alloc (.cells #[.int .u64 1] 57)) fun e w'=>∃ v,e=.returned v∧DN w' v S∧From w1.heap.size v∧Below w1.heap.size w1 w'):=by
     have hb:=(Below.refl w1.heap.size w1).alloc (Nat.le_refl _) (.cells #[.int .u64 1] 57)
     have h2:=HSd.out
     have h3:nd (R*2)≤10000000:=Nat.le_trans (ct (Nat.lt_of_le_of_lt (show R*2≤S by omega) (cG S))) h2
     have:=ii _ _ (R*2) 1 _ (hd1.below hb) (FW w1) h3 (by decide)
     rw [hS] at this
     exact this.mono fun _ _ ⟨v,a,b,c,d⟩=>⟨v,a,b,bE c (by simp),hb.trans (d.mono (by simp))⟩
    clear hd1 hf1 hS
    go_wp2_with fail
    refine HAdd.out.mono ?_
    rintro e w2 ⟨v2,rfl,hd1,hf1,hb1⟩
    obtain⟨p2,l2,c2,rfl⟩:=dR hd1
    have HD1:=aa hd1
    have HF1:=aa (bE hf1 hz1)
    have HB2:=aa (HB1.out.trans (hb1.mono hz1))
    clear hd1 hf1 hb1 HAdd hca1
    go_wp2_with fail
    have HX1:=HB2
    by_cases hc:B≤S
    ·obtain⟨t,ht,ht0⟩:∃ t:Int,jP S B=t∧0≤t:=by
      rcases Nat.lt_or_eq_of_le hc with h | h
      ·exact⟨1,jd h,by decide⟩
      ·exact⟨0,jc h.symm,by decide⟩
     have HBw:=aa (HBl.out.trans (HX1.out.mono HBl.out.size))
     have HCmp:Hid (Calls Tryz.prog 126 #[.slice p2 l2 c2,vb] w2 fun e w'=>e=.returned (.int .i64 t)∧∃ q,w'=w2.drewN q):=by
      rw [← ht];exact ck _ _ S B w2 HD1.out (HB.out.below HBw.out) HSd.out
     refine HCmp.out.mono ?_
     rintro e w3 ⟨rfl,q3,hq3⟩
     have HB3:Hid (Below w2.heap.size w2 w3):=by rw [hq3];exact below_drewN (Below.refl _ _) _
     have HB3w:=aa (HBw.out.trans (HB3.out.mono HBw.out.size))
     have HSub:=aa (df _ _ S B w3 (HD1.out.below HB3.out) (HB.out.below HB3w.out) HSd.out hc)
     obtain⟨hm1,hm2⟩:=HBit.out.1 hc
     rw [← hm1] at HSub
     have HM2:=aa hm2
     clear ht hm1 hm2 hq3 HCmp
     go_wp2_with fail
     refine HSub.out.mono ?_
     rintro e w4 ⟨v4,rfl,hd4,hf4,hb4⟩
     obtain⟨p4,l4,c4,rfl⟩:=dR hd4
     have HBwr:=aa (HX1.out.trans (HB3.out.mono HX1.out.size))
     have HB4r:=aa (HBwr.out.trans (hb4.mono HBwr.out.size))
     have HB4w:=aa (HB3w.out.trans (hb4.mono HB3w.out.size))
     have HO4:=aa (fI HOwn.out hz HB4r.out)
     have ho:=HO4.out.cell (i:=j) hjn
     have fo:=HO4.out.frozen j
     obtain⟨hp1,hp2⟩:=HPut.out
     rw [← HM2.out] at hp2
     have HD4:=aa hd4
     have HF4:=aa (bE hf4 (show wr.heap.size≤_ from HBwr.out.size))
     obtain⟨o,hoo⟩:∃ o,dgt (A / 2^(i+1) / B*2^(i+1)) j=o:=⟨_,rfl⟩
     rw [hoo] at ho hp1 hp2
     obtain⟨P,hP⟩:∃ P,2^r=P:=⟨_,rfl⟩
     have wp:=lw hr
     rw [hP] at wp hp1 hp2
     have e1:((2:Int)^r)=(P:Int):=by rw [← hP,Int.natCast_pow];rfl
     have ws:IntKind.u64.wrap ((o:Int)+(P:Int))=((o+P:Nat):Int):=by rw [IntKind.wrap_u64];omega
     have td:(i:Int).tdiv 32=j:=by rw [Int.tdiv_eq_ediv_of_nonneg (by omega)];exact hq
     have tm:(i:Int).tmod 32=r:=by rw [Int.tmod_eq_emod_of_nonneg (by omega)];exact hrr
     have jn:(j:Int)<(n:Int):=by omega
     have HP2:=aa hp2
     clear hd4 hf4 hb4 hoo hP hp2 HPut HBit HOwn HB3 HBw HB3w HSub HD1 HF1 HBl HB1 HX1
     go_wp2_with fail
     go_region
     have HD5:=aa (HD4.out.set (bE HF4.out hz) (a:=⟨w.heap.size,j,none⟩) (Nat.lt_succ_self _) (.int .u64 ((o:Int)+(P:Int))))
     have HO5:=aa (Own.put (j:=j) (d:=o+P) (x:=(o:Int)+(P:Int)) HO4.out (by omega) hp1)
     rw [HP2.out] at HO5
     have HB5:=aa (HB4w.out.setCell (p:=⟨w.heap.size,j,none⟩) (Nat.le_refl _) (.int .u64 ((o:Int)+(P:Int)))).drew
     clear HO4 HD4 HB4w HB4r HBwr HP2
     go_wp2_with fail
     go_roundw
     case rel=>exact⟨i,by omega,rfl,HD5,bE HF4.out hz,HO5,HB5⟩
     case measure=>simp [intOf]
    ·obtain⟨hm1,hm2⟩:=HBit.out.2 (by omega)
     have HBw:=aa (HBl.out.trans (HX1.out.mono HBl.out.size))
     have HCmp:Hid (Calls Tryz.prog 126 #[.slice p2 l2 c2,vb] w2 fun e w'=>e=.returned (.int .i64 (-1))∧∃ q,w'=w2.drewN q):=by
      rw [← jb (show S<B by omega)];exact ck _ _ S B w2 HD1.out (HB.out.below HBw.out) HSd.out
     have HO:=aa HOwn.out
     rw [← hm2] at HO
     rw [← hm1] at HD1
     refine HCmp.out.mono ?_
     rintro e w3 ⟨rfl,q3,hq3⟩
     have HB3:Hid (Below w2.heap.size w2 w3):=by rw [hq3];exact below_drewN (Below.refl _ _) _
     have HB3w:=aa (HBw.out.trans (HB3.out.mono HBw.out.size))
     have HD3:=aa (HD1.out.below HB3.out)
     have HO3:=aa (fI HO.out hz ((HX1.out.trans (HB3.out.mono HX1.out.size))))
     clear hm1 hm2 hq3 HCmp HO HOwn HB3 HBw
     go_wp2_with fail
     go_roundw
     case rel=>exact⟨i,by omega,rfl,HD3,bE HF1.out (by omega),HO3,HB3w⟩
     case measure=>simp [intOf]
theorem nK (v vb:Value) (A B:Nat) (w:World) (hA:DN w v A) (hB:DN w vb B) (hA0:A≠0) (hB0:0<B) (ha:nd A≤10000) (hb:nd B≤10000) :
  Calls Tryz.prog 146 #[v,vb] w fun e w'=>∃ q r,e=.returned (.tuple #[q,r])∧DN w' q (A / B)∧DN w' r (A % B)∧From w.heap.size q∧From w.heap.size r∧Below w.heap.size w w':=by
 rcases hA with⟨h0,_⟩| ⟨h0,g,c,rfl,hc,hg,hr⟩
 ·exact absurd h0 hA0
 ·exact nJ g c (nd A) (bl A) A B vb w hr hg h0 rfl hc rfl (FU A) hB hB0 ha hb
end Go.Proofs.YtjjlnmihkadlmaaGreat
namespace Go.Proofs.YtjjlnmihkadlmaaGreat
open Go.RowKit

set_option maxRecDepth 10000 in
set_option maxHeartbeats 1600000 in
theorem sl (nx ny mo:Bool) (vx vy:Value) (ex ey res:Int) (X Y k lr:Nat) (w:World) (hX:DN w vx X) (hY:DN w vy Y) (hX0:X≠0) (hY0:Y≠0) (hXd:nd X≤300) (hYd:nd Y≤100)
  (he: -10000≤ex) (he':ex≤10000) (hf: -10000≤ey) (hf':ey≤10000) (hk:max 0 (70 - (bl X:Int)+(bl Y:Int))=(k:Int)) (hlr:Hid (nd (X*2^k % Y)=lr)) (hmo:decide (0<lr)=mo) (hres:Hid (bO nx (X*2^k / Y) (ex - k - ey) mo=res)) :
  Calls Tryz.prog 103 #[.agg #[.bool nx,vx,.int .i64 ex],.agg #[.bool ny,vy,.int .i64 ey]] w fun x w'=>x=.returned (.int .u64 res)∧Below w.heap.size w w':=by
 have hbx:=oc X
 have hby:=oc Y
 have hk1:k≤10000:=by omega
 obtain⟨px,lx,cx,rfl⟩:=dR hX
 obtain⟨py,ly,cy,rfl⟩:=dR hY
 have HB0:Hid (Below w.heap.size w (boxN (boxN w nx (.slice px lx cx) ex) ny (.slice py ly cy) ey)):=(aH w nx (.slice px lx cx) ex).trans ((aH (boxN w nx (.slice px lx cx) ex) ny (.slice py ly cy) ey).mono (by simp))
 have HZ:=aa (eO w nx (.slice px lx cx) ex ny (.slice py ly cy) ey)
 have H60:=aa (pT w nx (.slice px lx cx) ex ny (.slice py ly cy) ey)
 have HX:=aa fun w' (hb:Below w.heap.size w w')=>hX.below hb
 have HY:=aa fun w' (hb:Below w.heap.size w w')=>hY.below hb
 have HXn:=aa hX0
 have HA0:Hid (X*2^k≠0):=by
  have:=Nat.mul_pos (show 0<X by omega) (Nat.two_pow_pos k)
  show X*2^k≠0
  omega
 have HAd:Hid (nd (X*2^k)≤10000):=by
  have h1:X*2^k<2^(32*nd X)*2^k:=Nat.mul_lt_mul_of_pos_right (cG X) (Nat.two_pow_pos _)
  rw [← Nat.pow_add] at h1
  have:=ct (N:=X*2^k) (k:=nd X+k / 32+1) (Nat.lt_of_lt_of_le h1 (Nat.pow_le_pow_right (by decide) (by omega)))
  show nd (X*2^k)≤10000
  omega
 have HQd:Hid (nd (X*2^k / Y)≤1000000):=by
  have:=ct (Nat.lt_of_le_of_lt (Nat.div_le_self (X*2^k) Y) (cG (X*2^k)))
  have h2:=HAd.out
  show nd (X*2^k / Y)≤1000000
  omega
 have HYp:Hid (0<Y):=by show 0<Y;omega
 have HXd:=aa hXd
 have HYd:=aa hYd
 obtain⟨Bx,hBx⟩:∃ Bx:Int,(bl X:Int)=Bx:=⟨_,rfl⟩
 obtain⟨By,hBy⟩:∃ By:Int,(bl Y:Int)=By:=⟨_,rfl⟩
 rw [hBx,hBy] at hk
 have b1:0≤Bx:=by omega
 have b2:Bx≤9600:=by omega
 have b3:0≤By:=by omega
 have b4:By≤3200:=by omega
 have HBx:=aa hBx
 have HBy:=aa hBy
 have f1:IntKind.i64.wrap (70 - Bx)=70 - Bx:=by rw [IntKind.wrap_i64];omega
 have f2:IntKind.i64.wrap (70 - Bx+By)=70 - Bx+By:=by rw [IntKind.wrap_i64];omega
 have f3:IntKind.i64.wrap (ex - (k:Int))=ex - (k:Int):=by rw [IntKind.wrap_i64];omega
 have f4:IntKind.i64.wrap (ex - (k:Int) - ey)=ex - (k:Int) - ey:=by rw [IntKind.wrap_i64];omega
 clear hX hY hX0 hY0 hBx hBy hbx hby hXd hYd
 go_enter Tryz.func103,Tryz.ntmps103
 go_wp2_with fail
 refine (aR _ _ _ X false _ (HX.out _ HB0.out) (decide_eq_false HXn.out)).mono ?_
 rintro x w1 ⟨rfl,hb1⟩
 have H61:=aa (H60.out.below hb1 (by rw [HZ.out];omega))
 have hz1:w.heap.size+2≤w1.heap.size:=by have h9:=hb1.size;rw [HZ.out] at h9;exact h9
 have HB1:=aa (HB0.out.trans (hb1.mono HB0.out.size))
 obtain⟨c0,c1,c2,c3,c4,c5⟩:=H61.out
 clear hb1
 go_wp2_with fail
 go_quiet ((first | (go_at_call_of 145 (Value.slice px lx cx);exact Calls.quiet_of_same (jO (.slice px lx cx) X Bx _ (HX.out _ (below_drewN HB1.out _)) (by have:=HXd.out;omega) HBx)) | (go_at_call_of 145 (Value.slice py ly cy);exact Calls.quiet_of_same (jO (.slice py ly cy) Y By _ (HY.out _ (below_drewN HB1.out _)) (by have:=HYd.out;omega) HBy))))
 obtain⟨w2,hw2⟩:∃ w2,w2=w1.drewN nq:=⟨_,rfl⟩
 rw [← hw2]
 have H62:Hid (Six w2 w.heap.size nx (.slice px lx cx) ex ny (.slice py ly cy) ey):=by rw [hw2];exact H61.out
 have hz2:w.heap.size+2≤w2.heap.size:=by rw [hw2];exact hz1
 have HB2:Hid (Below w.heap.size w w2):=by rw [hw2];exact below_drewN HB1.out _
 clear hw2 c0 c1 c2 c3 c4 c5 H61 HB1 hz1 H60 HBx HBy hk
 obtain⟨d0,d1,d2,d3,d4,d5⟩:=H62.out
 have HSh:=aa (gf (.slice px lx cx) X k w2.drew (HX.out _ HB2.out.drew) (by have:=HXd.out;omega) (by omega))
 go_wp2_with fail
 go_region_held3 (fun w'=>w'.cell? ⟨w.heap.size,0,none⟩=some (.bool nx)∧w'.cell? ⟨w.heap.size,1,none⟩=some (.slice px lx cx)∧w'.cell? ⟨w.heap.size,2,none⟩=some (.int .i64 ex)∧w'.cell? ⟨w.heap.size+1,0,none⟩=some (.bool ny)∧w'.cell? ⟨w.heap.size+1,1,none⟩=some (.slice py ly cy)∧w'.cell? ⟨w.heap.size+1,2,none⟩=some (.int .i64 ey)) (first | exact H62.out | exact H63.out | exact H64.out | go_keep) (first | ((go_at_call 147;refine HSh.out.mono ?_;rintro x w3 ⟨v3,rfl,hd3,hf3,hb3⟩;have H63:=aa (Six.below (w:=w2.drew) H62.out hb3 (show w.heap.size+1<w2.heap.size by omega));have HB3:=aa (HB2.out.drew.trans (hb3.mono (show w.heap.size≤w2.heap.size by omega)));have hz3:w.heap.size+2≤w3.heap.size:=Nat.le_trans hz2 hb3.size;have HD3:=aa hd3;clear hd3 hf3 hb3)) | ((go_at_call 146;refine (nK _ (.slice py ly cy) (X*2^k) Y w3 HD3.out (HY.out _ HB3.out) HA0.out HYp.out HAd.out (by have:=HYd.out;omega)).mono ?_;rintro x w4 ⟨vq,vr,rfl,hdq,hdr,hfq,hfr,hb4⟩;have H64:=aa (Six.below H63.out hb4 (show w.heap.size+1<w3.heap.size by omega));have HB4:=aa (HB3.out.trans (hb4.mono HB3.out.size));obtain⟨pq,lq,cq,rfl⟩:=dR hdq;obtain⟨pr,cr,hvr⟩:=hdr.form;rw [hlr.out] at hvr;subst hvr;have HDq:=aa hdq;clear hdq hdr hfq hfr hb4)))
 clear d0 d1 d2 d3 d4 d5
 obtain⟨d0,d1,d2,d3,d4,d5⟩:=H64.out
 have HNr:Hid (Calls Tryz.prog 148 #[.agg #[.bool nx,.slice pq lq cq,.int .i64 (ex - (k:Int) - ey)],.bool mo] w4 fun x w'=>x=.returned (.int .u64 res)∧Below w4.heap.size w4 w'):=by
  rw [← hres.out]
  exact ja nx mo (.slice pq lq cq) (ex - (k:Int) - ey) (X*2^k / Y) w4 HDq.out HQd.out (by omega) (by omega)
 clear H62 H63 H64 HB3 HB2 HSh HD3 HX HY HDq HA0 HAd HQd HYp HXd HYd hres hlr f1 f2 f3 f4
 go_wp2_with fail
 refine HNr.out.mono ?_
 rintro x w5 ⟨rfl,hb5⟩
 have HB5:=aa (HB4.out.trans (hb5.mono HB4.out.size))
 clear hb5
 go_wp2_with fail
 go_ret
 exact⟨rfl,HB5.out⟩
end Go.Proofs.YtjjlnmihkadlmaaGreat
