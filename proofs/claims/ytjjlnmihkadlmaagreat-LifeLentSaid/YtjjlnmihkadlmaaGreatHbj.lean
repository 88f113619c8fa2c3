/-  -/
import Derived.Test.YtjjlnmihkadlmaaGreatHaz
import Derived.Test.YtjjlnmihkadlmaaGreatHbi
import Derived.Test.YtjjlnmihkadlmaaGreatHaw
import Derived.Test.YtjjlnmihkadlmaaGreatHbg
import Derived.Test.YtjjlnmihkadlmaaGreatHam
import Derived.Test.YtjjlnmihkadlmaaGreatHax
namespace Go.Proofs.YtjjlnmihkadlmaaGreat
open Go.RowKit

def wAt (ws:List Int) (ys:List Nat):Nat→A.St
 | 0=>⟨0,0⟩
 | k+1=>(wAt ws ys k).merge (A.cI (fi (ws.getD k 0)) (ys.getD k 0))
end Go.Proofs.YtjjlnmihkadlmaaGreat
namespace Go.Proofs.YtjjlnmihkadlmaaGreat
open Go.RowKit

theorem TBox.drewN {w wr:World} {kind:Int} {vx vy:Value} (h:TBox w kind vx vy wr) (m:Nat):TBox w kind vx vy (wr.drewN m):=⟨h.t0,h.t1,h.t2,⟨h.bl.os,h.bl.tape,h.bl.output,h.bl.size,h.bl.block⟩,h.lt⟩
theorem nM {a b A B:Int} (ha:0≤a) (hA:a≤A) (hb:0≤b) (hB:b≤B):0≤a*b∧a*b≤A*B:=⟨Int.mul_nonneg ha hb,Int.mul_le_mul hA hB hb (by omega)⟩
structure CubW (D i e q1 q2 r1 r2 r3 s2 s3 t1 t2 n1 n2:Int):Prop where
 hq1:e*e=q1
 hq2:q1*e=q2
 hr1:3*e=r1
 hr2:r1*e=r2
 hr3:r2*i=r3
 hs2:r1*i=s2
 hs3:s2*i=s3
 ht1:i*i=t1
 ht2:t1*i=t2
 hn1:D*D=n1
 hn2:n1*D=n2
 b:(0≤q1∧q1≤12006023184)∧(0≤q2∧q2≤1315523972317248)∧(0≤r1∧r1≤328716)∧(0≤r2∧r2≤36018069552)∧(0≤r3∧r3≤3946571916951744)∧(0≤s2∧s2≤36018069552)∧(0≤s3∧s3≤3946571916951744)∧(0≤t1∧t1≤12006023184)∧(0≤t2∧t2≤1315523972317248)∧(0≤n1∧n1≤12006023184)∧(0≤n2∧n2≤1315523972317248)
theorem xg {D i e:Int} (h0:0≤i) (hi:i≤109572) (he0:0≤e) (he:e≤109572) (hD0:0≤D) (hD:D≤109572):∃ q1 q2 r1 r2 r3 s2 s3 t1 t2 n1 n2,CubW D i e q1 q2 r1 r2 r3 s2 s3 t1 t2 n1 n2:=by
 have m1:=nM he0 he he0 he
 have m2:=nM m1.1 m1.2 he0 he
 have m4:=nM (show 0≤3*e by omega) (show 3*e≤328716 by omega) he0 he
 have m5:=nM m4.1 m4.2 h0 hi
 have m6:=nM (show 0≤3*e by omega) (show 3*e≤328716 by omega) h0 hi
 have m7:=nM m6.1 m6.2 h0 hi
 have m8:=nM h0 hi h0 hi
 have m9:=nM m8.1 m8.2 h0 hi
 have m10:=nM hD0 hD hD0 hD
 have m11:=nM m10.1 m10.2 hD0 hD
 exact⟨_,_,_,_,_,_,_,_,_,_,_,rfl,rfl,rfl,rfl,rfl,rfl,rfl,rfl,rfl,rfl,rfl,m1,m2,⟨by omega,by omega⟩,m4,m5,m6,m7,m8,m9,m10,m11⟩
end Go.Proofs.YtjjlnmihkadlmaaGreat
namespace Go.Proofs.YtjjlnmihkadlmaaGreat
open Go.RowKit

theorem yT {a b:Int} {p q:Nat} (h1:a+1074=(p:Int)) (h2:b+1074=(q:Int)):(a+b+2148).toNat=p+q:=by omega
theorem yU {x y:Nat} (hx:x<18446744073709551616) (hxn:af x) (hy:y<18446744073709551616) (hyn:af y):A.cI x y=⟨0,vI x*vI y⟩:=by
 obtain⟨o1,q1,e1,f1⟩:=Ce hx hxn
 obtain⟨o2,q2,e2,f2⟩:=Ce hy hyn
 have e0:A.cI x y=A.ju (x:Int) (y:Int):=by unfold A.cI;rw [o1,o2];rfl
 have key:aC (x:Int)*aC (y:Int)*2^(aP (x:Int)+aP (y:Int)+2148).toNat=vI x*vI y:=by
  rw [← e1,← e2]
  by_cases h1:aC (x:Int)=0
  ·rw [h1,Int.zero_mul,Int.zero_mul,Int.zero_mul,Int.zero_mul]
  ·by_cases h2:aC (y:Int)=0
   ·rw [h2,Int.zero_mul,Int.mul_zero,Int.zero_mul,Int.mul_zero]
   ·have a:=f1 h1
    have b:=f2 h2
    rw [yT a b,Int.pow_add,Int.natCast_pow,Int.natCast_pow]
    clear e0 e1 e2 f1 f2 a b h1 h2 o1 o2
    generalize aC (x:Int)=m
    generalize aC (y:Int)=k
    show m*k*(2^q1*2^q2)=m*2^q1*(k*2^q2)
    generalize (2:Int)^q1=s
    generalize (2:Int)^q2=t
    simp only [Int.mul_assoc,Int.mul_left_comm k]
 rw [e0]
 exact congrArg (A.St.mk 0) key
theorem eY {m:Int} {y K:Nat} (hK:K=1074) (h1: -9007199254740992≤m) (h2:m≤9007199254740992) (hy:y<18446744073709551616) (hyn:af y):A.cI (fi m) y=⟨0,m*uI K y⟩:=by
 obtain⟨a,b,c,d⟩:=lL (m:=m) hK h1 h2
 rw [yU d b hy hyn,a]
 unfold uI
 congr 1
 rw [Int.mul_assoc,Int.mul_comm (((2^K:Nat)):Int)]
theorem jW (a b:Int):A.St.merge ⟨0,a⟩ ⟨0,b⟩=⟨0,a+b⟩:=rfl
theorem qu {a b:Int} {y0 y1 K:Nat} (hK:K=1074) (ha: -9007199254740992≤a∧a≤9007199254740992) (hb: -9007199254740992≤b∧b≤9007199254740992) (h0:y0<18446744073709551616) (n0:af y0) (h1:y1<18446744073709551616) (n1:af y1):wAt [a,b] [y0,y1] 2=⟨0,a*uI K y0+b*uI K y1⟩:=by
 show ((⟨0,0⟩:A.St).merge (A.cI (fi a) y0)).merge (A.cI (fi b) y1)=_
 rw [eY hK ha.1 ha.2 h0 n0,eY hK hb.1 hb.2 h1 n1,jW,jW,Int.zero_add]
theorem sN {a b c d:Int} {y0 y1 y2 y3 K:Nat} (hK:K=1074) (ha: -9007199254740992≤a∧a≤9007199254740992) (hb: -9007199254740992≤b∧b≤9007199254740992) (hc: -9007199254740992≤c∧c≤9007199254740992) (hd: -9007199254740992≤d∧d≤9007199254740992) (h0:y0<18446744073709551616) (n0:af y0) (h1:y1<18446744073709551616) (n1:af y1) (h2:y2<18446744073709551616) (n2:af y2) (h3:y3<18446744073709551616) (n3:af y3):wAt [a,b,c,d] [y0,y1,y2,y3] 4=⟨0,a*uI K y0+b*uI K y1+c*uI K y2+d*uI K y3⟩:=by
 show ((((⟨0,0⟩:A.St).merge (A.cI (fi a) y0)).merge (A.cI (fi b) y1)).merge (A.cI (fi c) y2)).merge (A.cI (fi d) y3)=_
 rw [eY hK ha.1 ha.2 h0 n0,eY hK hb.1 hb.2 h1 n1,eY hK hc.1 hc.2 h2 n2,eY hK hd.1 hd.2 h3 n3,jW,jW,jW,jW,Int.zero_add]
theorem iJ (N:Int) (d:Nat):cP ⟨0,N⟩ d=overG N d:=by
 unfold cP overG
 rw [if_pos rfl,yO]
end Go.Proofs.YtjjlnmihkadlmaaGreat
namespace Go.Proofs.YtjjlnmihkadlmaaGreat
open Go.RowKit

structure Inside (xs:List Int) (x:Int) (k D:Nat) (i:Int):Prop where
 lt:k+1<xs.length
 hD:xs.getD (k+1) 0 - xs.getD k 0=(D:Int)
 hi:x - xs.getD k 0=i
 lo:0<i
 hi':i<(D:Int)
theorem yW {xs:List Int} {x:Int} {k:Nat} (hhi:x≤xs.getD (xs.length - 1) 0) (hk:FindR xs x k) (hne:xs.getD k 0≠x):∃ D i,Inside xs x k D i:=by
 have hle:=hk.le
 have hl:k+1<xs.length:=Classical.byContradiction fun c=>by
  have hkl:=hk.lt
  rw [show xs.length - 1=k by omega] at hhi
  omega
 have hg:=hk.gt hl
 exact⟨(xs.getD (k+1) 0 - xs.getD k 0).toNat,_,hl,by omega,rfl,by omega,by omega⟩
def Cf (ys:List Nat) (k D:Nat) (i:Int):Nat:=cP (wAt [(D:Int) - i,i] [ys.getD k 0,ys.getD (k+1) 0] 2) D
def Cg (ps:List Nat) (D:Nat) (i:Int):Nat:=cP (wAt [((D:Int) - i)*((D:Int) - i)*((D:Int) - i),3*((D:Int) - i)*((D:Int) - i)*i,3*((D:Int) - i)*i*i,i*i*i] ps 4) (D*D*D)
end Go.Proofs.YtjjlnmihkadlmaaGreat
namespace Go.Proofs.YtjjlnmihkadlmaaGreat
open Go.RowKit

structure NumW (y:Nat):Prop where
 lt:y<18446744073709551616
 nb:af y
theorem oJ {y0 y1 D K:Nat} {i:Int} (hK:K=1074) (h0:NumW y0) (h1:NumW y1) (hi:0≤i) (hi':i≤(D:Int)) (hD:(D:Int)≤109572):cP (wAt [(D:Int) - i,i] [y0,y1] 2) D=overG (dU (D:Int) i (uI K y0) (uI K y1)) D:=by
 rw [qu hK ⟨by omega,by omega⟩ ⟨by omega,by omega⟩ h0.lt h0.nb h1.lt h1.nb,iJ]
 rfl
theorem oK {p0 p1 p2 p3 D K:Nat} {i:Int} (hK:K=1074) (h0:NumW p0) (h1:NumW p1) (h2:NumW p2) (h3:NumW p3) (hi:0≤i) (hi':i≤(D:Int)) (hD:(D:Int)≤109572):Cg [p0,p1,p2,p3] D i=overG (dz (D:Int) i (uI K p0) (uI K p1) (uI K p2) (uI K p3)) (D*D*D):=by
 obtain⟨q1,q2,r1,r2,r3,s2,s3,t1,t2,m1,m2,hC⟩:=xg (D:=(D:Int)) (i:=i) (e:=(D:Int) - i) (by omega) (by omega) (by omega) (by omega) (by omega) (by omega)
 unfold Cg dz
 rw [hC.hq1,hC.hq2,hC.hr1,hC.hr2,hC.hr3,hC.hs2,hC.hs3,hC.ht1,hC.ht2]
 obtain⟨⟨_,_⟩,⟨b1,b1'⟩,⟨_,_⟩,⟨_,_⟩,⟨b2,b2'⟩,⟨_,_⟩,⟨b3,b3'⟩,⟨_,_⟩,⟨b4,b4'⟩,_,_⟩:=hC.b
 rw [sN hK ⟨by omega,by omega⟩ ⟨by omega,by omega⟩ ⟨by omega,by omega⟩ ⟨by omega,by omega⟩ h0.lt h0.nb h1.lt h1.nb h2.lt h2.nb h3.lt h3.nb,iJ]
theorem FB (D:Nat):((D*D*D:Nat):Int)=(D:Int)*(D:Int)*(D:Int):=by rw [Int.natCast_mul,Int.natCast_mul]
theorem sO {y0 y1 D K:Nat} {i:Int} (hK:K=1074) (h0:NumW y0) (h1:NumW y1) (hi:0≤i) (hi':i≤(D:Int)) (hD0:0<D) (h:ae (y0:Nat)≤ae (y1:Nat)) :
  ae (y0:Nat)≤eE (dU (D:Int) i (uI K y0) (uI K y1)) D∧eE (dU (D:Int) i (uI K y0) (uI K y1)) D≤ae (y1:Nat):=by
 have hu:=kE K h0.lt h0.nb h1.lt h1.nb h
 have hl:=Cb (n:=(D:Int)) hi hi' hu
 exact⟨xj hK h0.lt h0.nb hD0 hl.1,xk hK h1.lt h1.nb hD0 hl.2⟩
theorem nN {y0 y1 D K:Nat} {i:Int} (hK:K=1074) (h0:NumW y0) (h1:NumW y1) (hi:0≤i) (hi':i≤(D:Int)) (hD0:0<D) (h:ae (y1:Nat)≤ae (y0:Nat)) :
  ae (y1:Nat)≤eE (dU (D:Int) i (uI K y0) (uI K y1)) D∧eE (dU (D:Int) i (uI K y0) (uI K y1)) D≤ae (y0:Nat):=by
 have hu:=kE K h1.lt h1.nb h0.lt h0.nb h
 have hl:=Ge (n:=(D:Int)) hi hi' hu
 exact⟨xj hK h1.lt h1.nb hD0 hl.1,xk hK h0.lt h0.nb hD0 hl.2⟩
structure Up4 (p0 p1 p2 p3:Nat):Prop where
 n0:NumW p0
 n1:NumW p1
 n2:NumW p2
 n3:NumW p3
 r1:ae (p0:Nat)≤ae (p1:Nat)
 r2:ae (p1:Nat)≤ae (p2:Nat)
 r3:ae (p2:Nat)≤ae (p3:Nat)
theorem sP {p0 p1 p2 p3 D K:Nat} {i:Int} (hK:K=1074) (h:Up4 p0 p1 p2 p3) (hi:0≤i) (hi':i≤(D:Int)) (hD0:0<D) :
  ae (p0:Nat)≤eE (dz (D:Int) i (uI K p0) (uI K p1) (uI K p2) (uI K p3)) (D*D*D)∧eE (dz (D:Int) i (uI K p0) (uI K p1) (uI K p2) (uI K p3)) (D*D*D)≤ae (p3:Nat):=by
 have u1:=kE K h.n0.lt h.n0.nb h.n1.lt h.n1.nb h.r1
 have u2:=kE K h.n1.lt h.n1.nb h.n2.lt h.n2.nb h.r2
 have u3:=kE K h.n2.lt h.n2.nb h.n3.lt h.n3.nb h.r3
 have hl:=Gc (n:=(D:Int)) hi hi' u1 u2 u3
 have hp:0<D*D*D:=Nat.mul_pos (Nat.mul_pos hD0 hD0) hD0
 rw [← FB] at hl
 exact⟨xj hK h.n0.lt h.n0.nb hp hl.1,xk hK h.n3.lt h.n3.nb hp hl.2⟩
structure Down4 (p0 p1 p2 p3:Nat):Prop where
 n0:NumW p0
 n1:NumW p1
 n2:NumW p2
 n3:NumW p3
 r1:ae (p1:Nat)≤ae (p0:Nat)
 r2:ae (p2:Nat)≤ae (p1:Nat)
 r3:ae (p3:Nat)≤ae (p2:Nat)
theorem nO {p0 p1 p2 p3 D K:Nat} {i:Int} (hK:K=1074) (h:Down4 p0 p1 p2 p3) (hi:0≤i) (hi':i≤(D:Int)) (hD0:0<D) :
  ae (p3:Nat)≤eE (dz (D:Int) i (uI K p0) (uI K p1) (uI K p2) (uI K p3)) (D*D*D)∧eE (dz (D:Int) i (uI K p0) (uI K p1) (uI K p2) (uI K p3)) (D*D*D)≤ae (p0:Nat):=by
 have u1:=kE K h.n1.lt h.n1.nb h.n0.lt h.n0.nb h.r1
 have u2:=kE K h.n2.lt h.n2.nb h.n1.lt h.n1.nb h.r2
 have u3:=kE K h.n3.lt h.n3.nb h.n2.lt h.n2.nb h.r3
 have hl:=Gd (n:=(D:Int)) hi hi' u1 u2 u3
 have hp:0<D*D*D:=Nat.mul_pos (Nat.mul_pos hD0 hD0) hD0
 rw [← FB] at hl
 exact⟨xj hK h.n3.lt h.n3.nb hp hl.1,xk hK h.n0.lt h.n0.nb hp hl.2⟩
end Go.Proofs.YtjjlnmihkadlmaaGreat
namespace Go.Proofs.YtjjlnmihkadlmaaGreat
open Go.RowKit

structure NN (x:Nat):Prop where
 lt:x<18446744073709551616
 le:x % 9223372036854775808≤9218868437227405312
theorem NN.cases {x:Nat} (h:NN x):af x∨x % 9223372036854775808=9218868437227405312:=by
 unfold af;have:=h.le;omega
theorem NN.nan {x:Nat} (h:NN x):ag (x:Nat)=false:=by
 unfold ag szI;rw [decide_eq_false_iff_not];have:=h.le;omega
theorem Hz {x:Nat} (hlt:x<18446744073709551616) (h:ag (x:Nat)=false):NN x:=by
 unfold ag szI at h;rw [decide_eq_false_iff_not] at h;exact⟨hlt,by omega⟩
theorem NumW.nn {x:Nat} (h:NumW x):NN x:=⟨h.lt,by have:=h.nb;unfold af at this;omega⟩
theorem mr {s:Bool} {r:Nat} (h:r≤9218868437227405312):NN (wrd s r)∧sB (wrd s r)=s:=by
 unfold wrd sB
 cases s
 ·exact⟨⟨by simp;omega,by simp;omega⟩,by simp;omega⟩
 ·refine⟨⟨by simp;omega,by simp;omega⟩,?_⟩
  rw [if_pos rfl,show (9223372036854775808+r) / 9223372036854775808 % 2=1 by omega];rfl
theorem ms {r:Nat} {k:Int} (h:RkW r k):NN r:=Hz h.2.1 h.2.2
theorem xr {x y:Nat} (hx:NumW x) (hy:NumW y):NN (lW x y):=by
 obtain⟨r,e,h⟩:=sL hx.nb hy.nb
 unfold lW;rw [e,ar];exact ms h
theorem fM {x y:Nat} (hx:NN x) (hy:NumW y) (h0:y % 9223372036854775808≠0):NN (cR x y):=by
 unfold cR
 rcases hx.cases with h | h
 ·obtain⟨r,e,hr⟩:=jv h hy.nb h0
  rw [e,ar];exact ms hr
 ·rw [xd h hy.nb,ar];exact (mr (by omega)).1
theorem gU {x y:Nat} (hx:NN x) (hy:NumW y) (h0:y % 9223372036854775808≠0):NN (nL x y):=by
 unfold nL
 rcases hx.cases with h | h
 ·obtain⟨r,e,hr⟩:=mq h hy.nb
  rw [e,ar];exact ms hr
 ·rw [(gp h hy.nb h0).1,ar];exact (mr (by omega)).1
theorem kY {x y:Nat} (hx:NumW x) (hy:NN y):NN (iF x y):=by
 unfold iF
 rcases hy.cases with h | h
 ·obtain⟨r,e,hr⟩:=dW hx.nb h
  rw [e,ar];exact ms hr
 ·rw [(jl h hx.nb hy.lt).2,ar];exact hy
theorem oL {x y:Nat} (hx:NN x) (hy:NN y) (hs:sB x=sB y):NN (iF x y):=by
 unfold iF
 rcases hx.cases with h | h<;>rcases hy.cases with h' | h'
 ·obtain⟨r,e,hr⟩:=dW h h'
  rw [e,ar];exact ms hr
 ·rw [(jl h' h hy.lt).2,ar];exact hy
 ·rw [(jl h h' hx.lt).1,ar];exact hx
 ·have e:x=y:=by
   have a:=hx.lt
   have b:=hy.lt
   unfold sB at hs
   have c:(x / 9223372036854775808 % 2==1)=(y / 9223372036854775808 % 2==1):=hs
   have d:x / 9223372036854775808 % 2=y / 9223372036854775808 % 2:=by
    rcases Nat.mod_two_eq_zero_or_one (x / 9223372036854775808) with p | p<;>rcases Nat.mod_two_eq_zero_or_one (y / 9223372036854775808) with q | q<;>rw [p,q] at c<;>simp_all
   omega
  rw [lP h h' hx.lt hy.lt,if_pos e,ar];exact hx
theorem mu {c a:Nat} (hc:af c) (hc0:c % 9223372036854775808≠0) (hcs:sB c=false) (ha:NN a) (h0:a % 9223372036854775808≠0):NN (cR c a)∧sB (cR c a)=sB a:=by
 unfold cR
 rcases ha.cases with h | h
 ·have hl:(mg (a % 9223372036854775808)).log2<53:=(Nat.log2_lt (eD h0)).2 (by have:=lh (a % 9223372036854775808);omega)
  rw [gQ hc h hc0 h0 rfl rfl rfl rfl (k:=300) (by omega),ar,hcs,Bool.false_xor]
  exact mr (ml _ _)
 ·rw [lU hc h,ar,hcs,Bool.false_xor]
  exact mr (by omega)
theorem Ci {s:Nat} (hs:NN s):NN (cR 4611686018427387904 s):=by
 by_cases h0:s % 9223372036854775808=0
 ·unfold cR
  rw [kv (by unfold af;decide) (by decide) h0,ar]
  exact (mr (by omega)).1
 ·exact (mu (by unfold af;decide) (by decide) (by decide) hs h0).1
theorem fO {a:Nat} (hl:a<18446744073709551616) (h:ltB 0 (a:Nat)=true):a % 9223372036854775808≠0∧sB a=false:=by
 unfold ltB at h
 simp only [Bool.and_eq_true,Bool.not_eq_true',decide_eq_true_eq] at h
 obtain⟨⟨_,hn⟩,hr⟩:=h
 have r0:ae 0=0:=by decide
 rw [r0] at hr
 unfold ae at hr
 rw [hn,if_neg (by decide)] at hr
 unfold sgB szI at hr
 by_cases hs:(9223372036854775808:Int)≤(a:Int)
 ·simp [hs] at hr;omega
 ·simp [hs] at hr
  refine⟨by omega,?_⟩
  unfold sB
  rw [show a / 9223372036854775808 % 2=0 by omega];rfl
theorem kZ {a:Nat} (hl:a<18446744073709551616) (h:ltB (a:Nat) 0=true):a % 9223372036854775808≠0∧sB a=true:=by
 unfold ltB at h
 simp only [Bool.and_eq_true,Bool.not_eq_true',decide_eq_true_eq] at h
 obtain⟨⟨hn,_⟩,hr⟩:=h
 have r0:ae 0=0:=by decide
 rw [r0] at hr
 unfold ae at hr
 rw [hn,if_neg (by decide)] at hr
 unfold sgB szI at hr
 by_cases hs:(9223372036854775808:Int)≤(a:Int)
 ·simp [hs] at hr
  refine⟨by omega,?_⟩
  unfold sB
  rw [show a / 9223372036854775808 % 2=1 by omega];rfl
 ·simp [hs] at hr;omega
theorem Gg {a b:Nat} (ha:NN a) (hb:NN b):NN (slB a b):=by
 have one:af 4607182418800017408:=by unfold af;decide
 have key:a % 9223372036854775808≠0→b % 9223372036854775808≠0→sB a=sB b→NN (cR 4611686018427387904 (iF (cR 4607182418800017408 a) (cR 4607182418800017408 b))):=fun h1 h2 hs=>by
  obtain⟨n1,s1⟩:=mu one (by decide) (by decide) ha h1
  obtain⟨n2,s2⟩:=mu one (by decide) (by decide) hb h2
  exact Ci (oL n1 n2 (by rw [s1,s2,hs]))
 have h:=FX a b
 generalize slB a b=z at *
 cases h with
 | up h1 h2=>
  obtain⟨x1,x2⟩:=fO ha.lt h1
  obtain⟨y1,y2⟩:=fO hb.lt h2
  exact key x1 y1 (by rw [x2,y2])
 | down1 h1 h3 h4=>
  obtain⟨x1,x2⟩:=kZ ha.lt h3
  obtain⟨y1,y2⟩:=kZ hb.lt h4
  exact key x1 y1 (by rw [x2,y2])
 | flat1=>exact⟨by decide,by decide⟩
 | flat2=>exact⟨by decide,by decide⟩
 | flat3=>exact⟨by decide,by decide⟩
theorem qz {x y:Nat} (hx:NumW x) (hy:NN y):NN (lW x y):=by
 have e:lW x y=iF x (flipN y):=by unfold lW iF;rw [sf hy.lt hy.nan]
 obtain⟨f1,f2,_⟩:=fH hy.lt
 rw [e]
 exact kY hx ⟨f1,by rw [f2];exact hy.le⟩
theorem fP {m:Int} (h0:0<m) (h1:m≤9007199254740992):NumW (fi m)∧fi m % 9223372036854775808≠0:=by
 obtain⟨a,b,c,d⟩:=lL (m:=m) rfl (by omega) h1
 refine⟨⟨d,b⟩,fun e=>?_⟩
 have hv:vI (fi m)=0:=by unfold vI;rw [e,bu];split<;>rfl
 rw [hv] at a
 have hp:(0:Int)<((2^1074:Nat):Int):=by have:=Nat.two_pow_pos 1074;omega
 have:=Int.mul_pos h0 hp
 omega
theorem aE {kind:Int} {xs:List Int} {ys:List Nat} (h:OkT kind xs ys) (hf:∀ i<ys.length,U64 (ys.getD i 0:Nat)) {i:Nat} (hi:i<xs.length):NumW (ys.getD i 0):=by
 have h1:=(az (h.node i hi)).2.2.2.1
 have h2:=hf i (by rw [h.len];exact hi)
 unfold bL szI at h1
 rw [decide_eq_true_eq] at h1
 exact⟨by have:=h2.2;omega,by unfold af;omega⟩
theorem dX {kind:Int} {xs:List Int} {ys:List Nat} (h:OkT kind xs ys) (hf:∀ i<ys.length,U64 (ys.getD i 0:Nat)) {k:Nat} (hk:k+1<xs.length):NN (bF xs ys k):=by
 have hs:=h.step hk
 have n0:=az (h.node k (by omega))
 have n1:=az (h.node (k+1) hk)
 obtain⟨a,b⟩:=fP (m:=xs.getD (k+1) 0 - xs.getD k 0) (by omega) (by omega)
 exact fM (xr (aE h hf hk) (aE h hf (by omega))) a b
theorem sQ {kind:Int} {xs:List Int} {ys:List Nat} (h:OkT kind xs ys) (hf:∀ i<ys.length,U64 (ys.getD i 0:Nat)):∀ k,k+1<xs.length→∀ d ∈ eS xs ys k,NN d
 | 0,hk,d,hd=>by
  have:d=bF xs ys 0:=by simpa [eS] using hd
  rw [this];exact dX h hf hk
 | k+1,hk,d,hd=>by
  rw [lX,List.mem_append] at hd
  rcases hd with hd | hd
  ·exact sQ h hf k (by omega) d hd
  ·have:d=slB (bF xs ys k) (bF xs ys (k+1)):=by simpa using hd
   rw [this];exact Gg (dX h hf (by omega)) (dX h hf hk)
theorem eZ {kind:Int} {xs:List Int} {ys:List Nat} (h:OkT kind xs ys) (hf:∀ i<ys.length,U64 (ys.getD i 0:Nat)) (i:Nat):NN ((dB xs ys xs.length).getD i 0):=by
 have z:NN 0:=⟨by decide,by decide⟩
 by_cases hi:i<(dB xs ys xs.length).length
 ·have e:(dB xs ys xs.length).getD i 0=(dB xs ys xs.length)[i]:=by simp [List.getD,List.getElem?_eq_getElem hi]
  rw [e]
  have hm:=List.getElem_mem hi
  generalize (dB xs ys xs.length)[i]=d at *
  unfold dB at hm
  have hlo:=h.lo
  split at hm
  ·have:d=0:=by simpa using hm
   rw [this];exact z
  ·rw [List.mem_append] at hm
   rcases hm with hm | hm
   ·exact sQ h hf _ (by omega) d hm
   ·have:d=bF xs ys (xs.length - 2):=by simpa using hm
    rw [this];exact dX h hf (by omega)
 ·have e:(dB xs ys xs.length).getD i 0=0:=by simp [List.getD,List.getElem?_eq_none (show (dB xs ys xs.length).length≤i by omega)]
  rw [e];exact z
theorem xt {x a b:Nat} (hx:x<18446744073709551616) (hn:ag (x:Nat)=false) (ha:NumW a) (hb:NumW b) (h1:ae (a:Nat)≤ae (x:Nat)) (h2:ae (x:Nat)≤ae (b:Nat)):NumW x:=by
 have ra: -9218868437227405312<ae (a:Nat):=by
  rcases vI_rank ha.lt ha.nb with⟨p,_,q⟩| ⟨p,_,q⟩
  ·omega
  ·have:=ha.nb;unfold af at this;omega
 have rb:ae (b:Nat)<9218868437227405312:=by
  rcases vI_rank hb.lt hb.nb with⟨p,_,q⟩| ⟨p,_,q⟩
  ·have:=hb.nb;unfold af at this;omega
  ·omega
 exact⟨hx,sM (k:=ae (x:Nat)) ⟨rfl,hx,hn⟩ (by omega) (by omega)⟩
theorem jX {v a b:Nat} (hv:NN v) (ha:NumW a) (hb:NumW b) (h:ae (a:Nat)≤ae (b:Nat)):NumW (heldN v a b)∧ae (a:Nat)≤ae (heldN v a b:Nat)∧ae (heldN v a b:Nat)≤ae (b:Nat):=by
 obtain⟨x,y,z⟩:=Ex hv.nan ha.nn.nan hb.nn.nan h
 rw [← fK hv.lt ha.lt hb.lt] at x y z
 exact⟨xt (lY hv.lt ha.lt hb.lt) x ha hb y z,y,z⟩
theorem jY {v a b:Nat} (hv:NN v) (ha:NumW a) (hb:NumW b) (h:ae (b:Nat)≤ae (a:Nat)):NumW (heldN v a b)∧ae (b:Nat)≤ae (heldN v a b:Nat)∧ae (heldN v a b:Nat)≤ae (a:Nat):=by
 obtain⟨x,y,z⟩:=yx hv.nan ha.nn.nan hb.nn.nan h
 rw [← fK hv.lt ha.lt hb.lt] at x y z
 exact⟨xt (lY hv.lt ha.lt hb.lt) x hb ha y z,y,z⟩
theorem Gh {h d e a b:Nat} (hh:NumW h) (h0:h % 9223372036854775808≠0) (hd:NN d) (he:NN e) (ha:NumW a) (hb:NumW b) (hr:ae (a:Nat)≤ae (b:Nat)):Up4 a (ptP h d a b) (ptQ h e b (ptP h d a b)) b:=by
 obtain⟨t3,t30⟩:=fP (m:=3) (by decide) (by decide)
 obtain⟨p1,p2,p3⟩:=jX (v:=iF a (cR (nL d h) (fi 3))) (kY ha (fM (gU hd hh h0) t3 t30)) ha hb hr
 obtain⟨q1,q2,q3⟩:=jX (v:=lW b (cR (nL e h) (fi 3))) (qz hb (fM (gU he hh h0) t3 t30)) p1 hb p3
 exact⟨ha,p1,q1,hb,p2,q2,q3⟩
theorem Cj {h d e a b:Nat} (hh:NumW h) (h0:h % 9223372036854775808≠0) (hd:NN d) (he:NN e) (ha:NumW a) (hb:NumW b) (hr:ae (b:Nat)≤ae (a:Nat)):Down4 a (ptP h d a b) (ptQ h e b (ptP h d a b)) b:=by
 obtain⟨t3,t30⟩:=fP (m:=3) (by decide) (by decide)
 obtain⟨p1,p2,p3⟩:=jY (v:=iF a (cR (nL d h) (fi 3))) (kY ha (fM (gU hd hh h0) t3 t30)) ha hb hr
 obtain⟨q1,q2,q3⟩:=jY (v:=lW b (cR (nL e h) (fi 3))) (qz hb (fM (gU he hh h0) t3 t30)) p1 hb p2
 exact⟨ha,p1,q1,hb,p3,q3,q2⟩
end Go.Proofs.YtjjlnmihkadlmaaGreat
namespace Go.Proofs.YtjjlnmihkadlmaaGreat
open Go.RowKit

theorem olt {x c:Nat} (h:x<18446744073709551616) (hc:c<18446744073709551616):(FloatKind.f64.format.order x c==some .lt)=ltB (x:Nat) (c:Nat):=by
 unfold ltB
 cases hn:ag (x:Int) with
 | true=>rw [dJ hn];rfl
 | false=>
  cases hm:ag (c:Int) with
  | true=>rw [fS hm];rfl
  | false=>rw [iU (bB h) (bB hc) hn hm];rfl
theorem ogt {x c:Nat} (h:x<18446744073709551616) (hc:c<18446744073709551616):(FloatKind.f64.format.order x c==some .gt)=ltB (c:Nat) (x:Nat):=by
 unfold ltB
 cases hn:ag (x:Int) with
 | true=>rw [dJ hn];simp
 | false=>
  cases hm:ag (c:Int) with
  | true=>rw [fS hm];rfl
  | false=>rw [gE (bB h) (bB hc) hn hm];rfl
set_option maxHeartbeats 1600000 in
theorem ki (v a b:Nat) (w:World) (hv:v<18446744073709551616) (ha:NumW a) (hb:NumW b) :
  Calls Tryz.prog 196 #[.float .f64 v,.float .f64 a,.float .f64 b] w fun e w'=>e=.returned (.float .f64 (heldN v a b))∧w'=w:=by
 have la:=ax ha.nn.nan hb.nn.nan
 have lb:=ax hb.nn.nan ha.nn.nan
 have e1:=olt hb.lt ha.lt
 have e2:=eg (bB ha.lt) (bB hb.lt) ha.nn.nan hb.nn.nan
 have va:=olt hv ha.lt
 have vb:=olt hv hb.lt
 have ga:=ogt hv ha.lt
 have gb:=ogt hv hb.lt
 obtain⟨R,hR⟩:∃ R,heldN v a b=R:=⟨_,rfl⟩
 rw [hR]
 unfold heldN dC at hR
 rcases Int.lt_trichotomy (ae (a:Nat)) (ae (b:Nat)) with h | h | h
 ·rw [decide_eq_true h] at la
  rw [decide_eq_false (by omega)] at lb e2
  rw [lb] at e1
  rw [la,lb] at hR
  clear la lb vb ga ha hb hv h
  cases h1:ltB (v:Nat) (a:Nat)<;>cases h2:ltB (b:Nat) (v:Nat)
  all_goals
   rw [h1] at va hR
   rw [h2] at gb hR
   clear h1 h2
   simp at hR
   subst hR
   go_enter Tryz.func196,Tryz.ntmps196
   go_wp2
   go_ret
   exact⟨rfl,rfl⟩
 ·rw [decide_eq_false (by omega)] at la lb
  rw [decide_eq_true h] at e2
  rw [lb] at e1
  rw [la,lb] at hR
  clear la lb vb gb ha hb hv h
  cases h1:ltB (v:Nat) (a:Nat)<;>cases h2:ltB (a:Nat) (v:Nat)
  all_goals
   rw [h1] at va hR
   rw [h2] at ga hR
   clear h1 h2
   simp at hR
   subst hR
   go_enter Tryz.func196,Tryz.ntmps196
   go_wp2
   go_ret
   exact⟨rfl,rfl⟩
 ·rw [decide_eq_true h] at lb
  rw [decide_eq_false (by omega)] at la e2
  rw [lb] at e1
  rw [lb] at hR
  clear la lb va gb ha hb hv h
  cases h1:ltB (v:Nat) (b:Nat)<;>cases h2:ltB (a:Nat) (v:Nat)
  all_goals
   rw [h1] at vb hR
   rw [h2] at ga hR
   clear h1 h2
   simp at hR
   subst hR
   go_enter Tryz.func196,Tryz.ntmps196
   go_wp2
   go_ret
   exact⟨rfl,rfl⟩

def prv (xs:List Int):Nat→Int
 | 0=>-1
 | k+1=>xs.getD k 0
def plB (xs:List Int) (i:Nat):Bool:=decide (xs.getD i 0≤prv xs i)||decide (109572<xs.getD i 0)
def vlB (kind:Int) (ys:List Nat) (i:Nat):Bool:=!bL (ys.getD i 0:Nat)||(decide (kind=4)&&!ltB 0 (ys.getD i 0:Nat))

set_option maxHeartbeats 800000 in
theorem vU (p:Option Addr) (n c:Nat) (w:World) (h:n<1∨256<n) :
  Calls Tryz.prog 158 #[.slice p n c] w fun e w'=>e=.returned (.bool false)∧w'=w:=by
 rcases h with h | h
 ·have d1:decide ((n:Int)<1)=true:=decide_eq_true (by omega)
  clear h
  go_enter Tryz.func158,Tryz.ntmps158
  go_wp2
  go_ret
  exact⟨rfl,rfl⟩
 ·have d1:decide ((n:Int)<1)=false:=decide_eq_false (by omega)
  have d2:decide ((256:Int)<n)=true:=decide_eq_true (by omega)
  clear h
  go_enter Tryz.func158,Tryz.ntmps158
  go_wp2
  go_ret
  exact⟨rfl,rfl⟩

set_option maxHeartbeats 1600000 in
theorem tf (p:Option Addr) (b off c n K:Nat) (xs:List Int) (w:World) (hX:VSrc w p b off n (xV xs)) (hn:1≤n) (hn':n≤256) (hK:K≤n) (fine:∀ i<K,plB xs i=false) (bad:K<n→plB xs K=true) :
  Calls Tryz.prog 158 #[.slice p n c] w fun e w'=>e=.returned (.bool (decide (n≤K)))∧w'=w:=by
 obtain⟨g,hg⟩:∃ g,decide (n≤K)=g:=⟨_,rfl⟩
 rw [hg]
 have G0:Hid (K<n→g=false):=fun hh=>by rw [← hg];exact decide_eq_false (by omega)
 have G1:Hid (K=n→g=true):=fun hh=>by rw [← hg];exact decide_eq_true (by omega)
 clear hg
 have HX:=hideS hX
 have HF:=hideS fine
 have HB:=hideS bad
 obtain rfl:=hX.at_ (by omega)
 have d1:decide ((n:Int)<1)=false:=decide_eq_false (by omega)
 have d2:decide ((256:Int)<n)=false:=decide_eq_false (by omega)
 clear hX fine bad
 go_enter Tryz.func158,Tryz.ntmps158
 go_wp2_with fail
 clear d1 d2
 go_loop [3,5,16] (fun l _ i=>∃ k:Nat,k≤K∧i=.int .i64 k∧l=.int .i64 (prv xs k)) (fun _ _ i=>n - (intOf i).toNat)
 case atStart=>exact⟨0,Nat.zero_le _,rfl,rfl⟩
 case round=>
  obtain⟨k,hk,rfl,rfl⟩:=hrel
  by_cases hkK:k<K
  ·have hkn:k<n:=by omega
   have c1:w.cell? ⟨b,off+k,none⟩=some (.int .i64 (xs.getD k 0)):=HX.out.cell k hkn
   have f:=HF.out k hkK
   unfold plB at f
   rw [Bool.or_eq_false_iff] at f
   obtain⟨f1,f2⟩:=f
   have HP:=hideS (show prv xs (k+1)=xs.getD k 0 from rfl)
   generalize prv xs k=l at *
   generalize xs.getD k 0=y at *
   go_wp2_with fail
   go_round
   case rel=>exact⟨k+1,by omega,by simp,by rw [HP.out]⟩
   case measure=>simp [intOf];omega
  ·obtain rfl:k=K:=by omega
   by_cases hl:k<n
   ·have c1:w.cell? ⟨b,off+k,none⟩=some (.int .i64 (xs.getD k 0)):=HX.out.cell k hl
    have f:=HB.out hl
    unfold plB at f
    have HG:=hideS (G0.out hl)
    generalize prv xs k=l at *
    generalize xs.getD k 0=y at *
    cases f1:decide (y≤l)
    ·rw [f1,Bool.false_or] at f
     go_wp2_with fail
     go_ret
     exact⟨by rw [HG.out]<;>rfl,rfl⟩
    ·clear f
     go_wp2_with fail
     go_ret
     exact⟨by rw [HG.out]<;>rfl,rfl⟩
   ·obtain rfl:k=n:=by omega
    have HG:=hideS (G1.out rfl)
    go_wp2_with fail
    go_ret
    exact⟨by rw [HG.out]<;>rfl,rfl⟩

set_option maxHeartbeats 1600000 in
theorem th (kind:Int) (p:Option Addr) (b off c n K:Nat) (ys:List Nat) (w:World) (hY:VSrc w p b off n (flV ys)) (hf:∀ i<n,ys.getD i 0<18446744073709551616) (hn':n≤256) (hK:K≤n) (fine:∀ i<K,vlB kind ys i=false) (bad:K<n→vlB kind ys K=true) :
  Calls Tryz.prog 159 #[.int .i64 kind,.slice p n c] w fun e w'=>e=.returned (.bool (decide (n≤K)))∧w'=w:=by
 obtain⟨g,hg⟩:∃ g,decide (n≤K)=g:=⟨_,rfl⟩
 rw [hg]
 have G0:Hid (K<n→g=false):=fun hh=>by rw [← hg];exact decide_eq_false (by omega)
 have G1:Hid (K=n→g=true):=fun hh=>by rw [← hg];exact decide_eq_true (by omega)
 clear hg
 have HX:=hideS hY
 have HF:=hideS fine
 have HB:=hideS bad
 have HU:=hideS hf
 clear hY fine bad hf
 go_enter Tryz.func159,Tryz.ntmps159
 go_wp2_with fail
 go_loop [6,9] (fun _ i=>∃ k:Nat,k≤K∧i=.int .i64 k) (fun _ i=>n - (intOf i).toNat)
 case atStart=>exact⟨0,Nat.zero_le _,rfl⟩
 case round=>
  obtain⟨k,hk,rfl⟩:=hrel
  by_cases hl:k<n
  ·have c1:w.cell? ⟨b,off+k,none⟩=some (.float .f64 (ys.getD k 0)):=HX.out.cell k hl
   obtain rfl:=HX.out.at_ (by omega)
   have hu:=HU.out k hl
   have H1:=hideS fun w=>aU (ys.getD k 0) w (bB hu)
   have hv:vlB kind ys k=decide (K≤k):=by
    by_cases hkK:k<K
    ·rw [HF.out k hkK,decide_eq_false (by omega)]
    ·obtain rfl:k=K:=by omega
     rw [HB.out hl,decide_eq_true (Nat.le_refl k)]
   have o1:=olt hu (show (0:Nat)<18446744073709551616 by decide)
   unfold vlB at hv
   cases hn:ag (ys.getD k 0:Nat) with
   | true=>
    rw [pH hn,Bool.not_false,Bool.true_or] at hv
    have hKk:=of_decide_eq_true hv.symm
    have HG:=hideS (G0.out (by omega))
    rw [hn] at H1
    clear hv o1 hn hKk hu
    generalize ys.getD k 0=y at *
    go_wp2_with (first | (go_at_call 90;refine (H1.out _).mono ?_;rintro e w' ⟨rfl,rfl⟩))
    go_ret
    exact⟨by rw [HG.out]<;>rfl,rfl⟩
   | false=>
    have H2:=hideS fun w=>ip (ys.getD k 0) _ w (bB hu) (pG hn)
    have o2:=eg (bB hu) (bB (show (0:Nat)<18446744073709551616 by decide)) hn (by decide)
    have o3:ltB 0 (ys.getD k 0:Nat)=!((FloatKind.f64.format.order (ys.getD k 0) 0==some .lt)||(FloatKind.f64.format.order (ys.getD k 0) 0==some .eq)):=by
     rw [o1,o2,ax (by decide) hn]
     have r0:ae ((0:Nat):Int)=0:=by decide
     have r0':ae (0:Int)=0:=by decide
     have e:ltB (ys.getD k 0:Nat) ((0:Nat):Int)=decide (ae (ys.getD k 0:Nat)<0):=by rw [ax hn (by decide),r0]
     rw [e,r0,r0']
     generalize ae (ys.getD k 0:Nat)=r
     by_cases q1:r<0<;>by_cases q2:r=0<;>by_cases q3:0<r<;>simp [q1,q2,q3]<;>omega
    rw [o3] at hv
    rw [hn] at H1
    clear o1 o2 o3 hu hn
    generalize ys.getD k 0=y at *
    cases hfy:bL (y:Nat) with
    | false=>
     rw [hfy] at H2 hv
     rw [Bool.not_false,Bool.true_or] at hv
     have hKk:=of_decide_eq_true hv.symm
     have HG:=hideS (G0.out (by omega))
     clear hv hKk hfy
     go_wp2_with (first | (go_at_call 90;refine (H1.out _).mono ?_;rintro e w' ⟨rfl,rfl⟩) | (go_at_call 61;refine (H2.out _).mono ?_;rintro e w' ⟨rfl,rfl⟩))
     go_ret
     exact⟨by rw [HG.out]<;>rfl,rfl⟩
    | true=>
     rw [hfy] at H2 hv
     rw [Bool.not_true,Bool.false_or,Bool.not_not] at hv
     clear hfy
     cases h4:decide (kind=4) with
     | false=>
      rw [h4,Bool.false_and] at hv
      have hKk:=of_decide_eq_false hv.symm
      have h4':(kind==4)=false:=beq_eq_false_iff_ne.2 (of_decide_eq_false h4)
      clear hv h4
      go_wp2_with (first | (go_at_call 90;refine (H1.out _).mono ?_;rintro e w' ⟨rfl,rfl⟩) | (go_at_call 61;refine (H2.out _).mono ?_;rintro e w' ⟨rfl,rfl⟩))
      go_round
      case rel=>exact⟨k+1,by omega,by simp⟩
      case measure=>simp [intOf];omega
     | true=>
      rw [h4,Bool.true_and] at hv
      obtain rfl:=of_decide_eq_true h4
      clear h4
      cases a1:(FloatKind.f64.format.order y 0==some .lt)<;>cases a2:(FloatKind.f64.format.order y 0==some .eq)
      all_goals
       rw [a1,a2] at hv
      ·have hKk:=of_decide_eq_false hv.symm
       clear hv
       go_wp2_with (first | (go_at_call 90;refine (H1.out _).mono ?_;rintro e w' ⟨rfl,rfl⟩) | (go_at_call 61;refine (H2.out _).mono ?_;rintro e w' ⟨rfl,rfl⟩))
       go_round
       case rel=>exact⟨k+1,by omega,by simp⟩
       case measure=>simp [intOf];omega
      all_goals
       have hKk:=of_decide_eq_true hv.symm
       have HG:=hideS (G0.out (by omega))
       clear hv hKk
       go_wp2_with (first | (go_at_call 90;refine (H1.out _).mono ?_;rintro e w' ⟨rfl,rfl⟩) | (go_at_call 61;refine (H2.out _).mono ?_;rintro e w' ⟨rfl,rfl⟩))
       go_ret
       exact⟨by rw [HG.out]<;>rfl,rfl⟩
  ·obtain rfl:k=n:=by omega
   obtain rfl:K=k:=by omega
   have HG:=hideS (G1.out rfl)
   go_wp2_with fail
   go_ret
   exact⟨by rw [HG.out]<;>rfl,rfl⟩

set_option maxHeartbeats 800000 in
theorem mM (k:Int) (w:World) (h:k<1∨4<k) :
  Calls Tryz.prog 157 #[.int .i64 k] w fun e w'=>e=.returned .nilFunc∧w'=w:=by
 have h1:(k==1)=false:=beq_eq_false_iff_ne.2 (by omega)
 have h2:(k==2)=false:=beq_eq_false_iff_ne.2 (by omega)
 have h3:(k==3)=false:=beq_eq_false_iff_ne.2 (by omega)
 have h4:(k==4)=false:=beq_eq_false_iff_ne.2 (by omega)
 clear h
 go_enter Tryz.func157,Tryz.ntmps157
 go_wp2_with fail
 go_ret
 exact⟨rfl,rfl⟩
def fT (kind:Int):Nat:=if kind=1 then 183 else if kind=2 then 184 else if kind=3 then 185 else 186
set_option maxHeartbeats 800000 in
theorem mN (k:Int) (w:World) (h1:1≤k) (h4:k≤4) :
  Calls Tryz.prog 157 #[.int .i64 k] w fun e w'=>e=.returned (.func (.func (fT k)) #[] #[])∧w'=w:=by
 rcases (show k=1∨k=2∨k=3∨k=4 by omega) with rfl | rfl | rfl | rfl
 all_goals
  clear h1 h4
  go_enter Tryz.func157,Tryz.ntmps157
  go_wp2_with fail
  go_ret
  exact⟨rfl,rfl⟩
end Go.Proofs.YtjjlnmihkadlmaaGreat
namespace Go.Proofs.YtjjlnmihkadlmaaGreat
open Go.RowKit

def LRd (w:World) (B:Nat) (vy:Value) (b2 oy k:Nat) (y0 y1:Nat):Prop:=
 w.cell? ⟨B,2,none⟩=some vy∧w.cell? ⟨b2,oy+k,none⟩=some (.int .u64 (y0:Int))∧w.cell? ⟨b2,oy+(k+1),none⟩=some (.int .u64 (y1:Int))
theorem LRd.below {w w':World} {B s:Nat} {vy:Value} {b2 oy k:Nat} {y0 y1:Nat} (h:LRd w B vy b2 oy k y0 y1) (hb:Below s w w') (hB:B<s) (hy:b2<s):LRd w' B vy b2 oy k y0 y1:=
 ⟨(hb.cell (p:=⟨B,2,none⟩) hB).trans h.1,(hb.cell (p:=⟨b2,oy+k,none⟩) hy).trans h.2.1,(hb.cell (p:=⟨b2,oy+(k+1),none⟩) hy).trans h.2.2⟩
def logV (ln ex:Nat→Nat) (ys:List Nat) (k D:Nat) (i:Int):Nat:=heldN (ex (cP (wAt [(D:Int) - i,i] [ln (ys.getD k 0),ln (ys.getD (k+1) 0)] 2) D)) (ys.getD k 0) (ys.getD (k+1) 0)
end Go.Proofs.YtjjlnmihkadlmaaGreat
namespace Go.Proofs.YtjjlnmihkadlmaaGreat
open Go.RowKit

inductive AtR (xs:List Int) (ys:List Nat):Int→Int→Nat→Nat→Prop
 | node (kind x:Int) (k:Nat) (h:xs.getD k 0=x):AtR xs ys kind x k (ys.getD k 0)
 | flat (x:Int) (k:Nat) (h:xs.getD k 0≠x):AtR xs ys 1 x k (ys.getD k 0)
 | lin (x:Int) (k D:Nat) (i:Int) (h:Inside xs x k D i):AtR xs ys 2 x k (Cf ys k D i)
 | cub (x:Int) (k D:Nat) (i:Int) (h:Inside xs x k D i):AtR xs ys 3 x k (Cg (ptL xs ys k) D i)
theorem dZ {kind:Int} {xs:List Int} {ys:List Nat} {x:Int} {k D:Nat} {i:Int} (h:OkT kind xs ys) (hI:Inside xs x k D i):0<D∧(D:Int)≤109572:=by
 have n0:=az (h.node k (by have:=hI.lt;omega))
 have n1:=az (h.node (k+1) hI.lt)
 have:=hI.hD
 have:=hI.lo
 have:=hI.hi'
 omega
theorem CT {kind:Int} {xs:List Int} {ys:List Nat} {k:Nat} (h:OkT kind xs ys) (hf:∀ i<ys.length,U64 (ys.getD i 0:Nat)) (hk:k+1<xs.length) (hr:ae (ys.getD k 0:Nat)≤ae (ys.getD (k+1) 0:Nat)):∃ p q,ptL xs ys k=[ys.getD k 0,p,q,ys.getD (k+1) 0]∧Up4 (ys.getD k 0) p q (ys.getD (k+1) 0):=by
 have hs:=h.step hk
 have n0:=az (h.node k (by omega))
 have n1:=az (h.node (k+1) hk)
 obtain⟨a,b⟩:=fP (m:=xs.getD (k+1) 0 - xs.getD k 0) (by omega) (by omega)
 exact⟨_,_,rfl,Gh a b (eZ h hf k) (eZ h hf (k+1)) (aE h hf (by omega)) (aE h hf hk) hr⟩
theorem tB {kind:Int} {xs:List Int} {ys:List Nat} {k:Nat} (h:OkT kind xs ys) (hf:∀ i<ys.length,U64 (ys.getD i 0:Nat)) (hk:k+1<xs.length) (hr:ae (ys.getD (k+1) 0:Nat)≤ae (ys.getD k 0:Nat)):∃ p q,ptL xs ys k=[ys.getD k 0,p,q,ys.getD (k+1) 0]∧Down4 (ys.getD k 0) p q (ys.getD (k+1) 0):=by
 have hs:=h.step hk
 have n0:=az (h.node k (by omega))
 have n1:=az (h.node (k+1) hk)
 obtain⟨a,b⟩:=fP (m:=xs.getD (k+1) 0 - xs.getD k 0) (by omega) (by omega)
 exact⟨_,_,rfl,Cj a b (eZ h hf k) (eZ h hf (k+1)) (aE h hf (by omega)) (aE h hf hk) hr⟩
theorem tC {kind:Int} {xs:List Int} {ys:List Nat} {x:Int} {k D K:Nat} {i:Int} (hK:K=1074) (h:OkT kind xs ys) (hf:∀ i<ys.length,U64 (ys.getD i 0:Nat)) (hI:Inside xs x k D i):Cf ys k D i=overG (dU (D:Int) i (uI K (ys.getD k 0)) (uI K (ys.getD (k+1) 0))) D:=by
 have hl:=hI.lt
 have hD:=dZ h hI
 have:=hI.lo
 have:=hI.hi'
 exact oJ hK (aE h hf (by omega)) (aE h hf hl) (by omega) (by omega) hD.2
theorem mR {kind x:Int} {xs:List Int} {ys:List Nat} {k V:Nat} (h:OkT kind xs ys) (hf:∀ i<ys.length,U64 (ys.getD i 0:Nat)) (hk:k<xs.length) (hA:AtR xs ys kind x k V) (hr:k+1<xs.length→ae (ys.getD k 0:Nat)≤ae (ys.getD (k+1) 0:Nat)) :
  U64 (V:Nat)∧ag (V:Nat)=false∧ae (ys.getD k 0:Nat)≤ae (V:Nat)∧(k+1<xs.length→ae (V:Nat)≤ae (ys.getD (k+1) 0:Nat)):=by
 have hy:=aE h hf hk
 cases hA with
 | node kind x k h'=>exact⟨bB hy.lt,hy.nn.nan,Int.le_refl _,hr⟩
 | flat x k h'=>exact⟨bB hy.lt,hy.nn.nan,Int.le_refl _,hr⟩
 | lin x k D i hI=>
  have hD:=dZ h hI
  have hl:=hI.lt
  have a:=hI.lo
  have b:=hI.hi'
  rw [tC rfl h hf hI]
  obtain⟨c,d,e⟩:=cA (dU (D:Int) i (uI 1074 (ys.getD k 0)) (uI 1074 (ys.getD (k+1) 0))) D
  obtain⟨f,g⟩:=sO (K:=1074) rfl hy (aE h hf hl) (show 0≤i by omega) (show i≤(D:Int) by omega) hD.1 (hr hl)
  rw [e]
  exact⟨c,d,f,fun _=>g⟩
 | cub x k D i hI=>
  have hD:=dZ h hI
  have hl:=hI.lt
  have a:=hI.lo
  have b:=hI.hi'
  obtain⟨p,q,hp,hu⟩:=CT h hf hl (hr hl)
  rw [hp,oK (K:=1074) rfl hu.n0 hu.n1 hu.n2 hu.n3 (by omega) (by omega) hD.2]
  obtain⟨c,d,e⟩:=cA (dz (D:Int) i (uI 1074 (ys.getD k 0)) (uI 1074 p) (uI 1074 q) (uI 1074 (ys.getD (k+1) 0))) (D*D*D)
  obtain⟨f,g⟩:=sP (K:=1074) rfl hu (show 0≤i by omega) (show i≤(D:Int) by omega) hD.1
  rw [e]
  exact⟨c,d,f,fun _=>g⟩
theorem jA {kind x:Int} {xs:List Int} {ys:List Nat} {k V:Nat} (h:OkT kind xs ys) (hf:∀ i<ys.length,U64 (ys.getD i 0:Nat)) (hk:k<xs.length) (hA:AtR xs ys kind x k V) (hr:k+1<xs.length→ae (ys.getD (k+1) 0:Nat)≤ae (ys.getD k 0:Nat)) :
  U64 (V:Nat)∧ag (V:Nat)=false∧ae (V:Nat)≤ae (ys.getD k 0:Nat)∧(k+1<xs.length→ae (ys.getD (k+1) 0:Nat)≤ae (V:Nat)):=by
 have hy:=aE h hf hk
 cases hA with
 | node kind x k h'=>exact⟨bB hy.lt,hy.nn.nan,Int.le_refl _,hr⟩
 | flat x k h'=>exact⟨bB hy.lt,hy.nn.nan,Int.le_refl _,hr⟩
 | lin x k D i hI=>
  have hD:=dZ h hI
  have hl:=hI.lt
  have a:=hI.lo
  have b:=hI.hi'
  rw [tC rfl h hf hI]
  obtain⟨c,d,e⟩:=cA (dU (D:Int) i (uI 1074 (ys.getD k 0)) (uI 1074 (ys.getD (k+1) 0))) D
  obtain⟨f,g⟩:=nN (K:=1074) rfl hy (aE h hf hl) (show 0≤i by omega) (show i≤(D:Int) by omega) hD.1 (hr hl)
  rw [e]
  exact⟨c,d,g,fun _=>f⟩
 | cub x k D i hI=>
  have hD:=dZ h hI
  have hl:=hI.lt
  have a:=hI.lo
  have b:=hI.hi'
  obtain⟨p,q,hp,hu⟩:=tB h hf hl (hr hl)
  rw [hp,oK (K:=1074) rfl hu.n0 hu.n1 hu.n2 hu.n3 (by omega) (by omega) hD.2]
  obtain⟨c,d,e⟩:=cA (dz (D:Int) i (uI 1074 (ys.getD k 0)) (uI 1074 p) (uI 1074 q) (uI 1074 (ys.getD (k+1) 0))) (D*D*D)
  obtain⟨f,g⟩:=nO (K:=1074) rfl hu (show 0≤i by omega) (show i≤(D:Int) by omega) hD.1
  rw [e]
  exact⟨c,d,g,fun _=>f⟩
end Go.Proofs.YtjjlnmihkadlmaaGreat
namespace Go.Proofs.YtjjlnmihkadlmaaGreat
open Go.RowKit

end Go.Proofs.YtjjlnmihkadlmaaGreat
namespace Go.Proofs.YtjjlnmihkadlmaaGreat
open Go.RowKit

theorem zD {v a b:Int} (hv:ag v=false) (ha:ag a=false) (hb:ag b=false):ag (dC v a b)=false∧ae (dC v a b)=max (min (ae a) (ae b)) (min (max (ae a) (ae b)) (ae v)):=by
 unfold dC
 rw [ax hb ha,ax hv hb,ax ha hv,ax ha hb,ax hv ha,ax hb hv]
 simp only [decide_eq_true_eq]
 (repeat' split)<;>exact⟨by assumption,by omega⟩
end Go.Proofs.YtjjlnmihkadlmaaGreat
namespace Go.Proofs.YtjjlnmihkadlmaaGreat
open Go.RowKit

noncomputable def lnW (y:Nat):Nat:=if y<18446744073709551616 then cn (lnF y) else 0
noncomputable def exW (y:Nat):Nat:=if y<18446744073709551616 then cn (If y) else 0
theorem Gx (y:Nat):exW y<18446744073709551616:=by
 unfold exW
 split
 ·rename_i h
  cases hn:ag (y:Int) with
  | true=>rw [(fb h).nan hn,ji];omega
  | false=>
   obtain⟨z,e,hz⟩:=(fb h).num hn
   rw [e,ar];omega
 ·decide
theorem lf {y:Nat} (h:NumW y) (hp:ltB 0 (y:Nat)=true):NumW (lnW y):=by
 obtain⟨h1,h2⟩:=fO h.lt hp
 have hs:=mL h.lt
 obtain⟨z,e,hz⟩:=hs.fin h.nb h2 h1
 have hl:=hs.lt
 unfold lnW
 rw [if_pos h.lt]
 rw [e,ar] at hl ⊢
 exact⟨hl,hz⟩
theorem CU {xs:List Int} {ys:List Nat} {x:Int} {k D:Nat} {i:Int} (h:OkT 4 xs ys) (hf:∀ i<ys.length,U64 (ys.getD i 0:Nat)) (hI:Inside xs x k D i) :
  ag (logV lnW exW ys k D i:Nat)=false∧logV lnW exW ys k D i<18446744073709551616∧min (ae (ys.getD k 0:Nat)) (ae (ys.getD (k+1) 0:Nat))≤ae (logV lnW exW ys k D i:Nat)∧ae (logV lnW exW ys k D i:Nat)≤max (ae (ys.getD k 0:Nat)) (ae (ys.getD (k+1) 0:Nat)):=by
 have hl:=hI.lt
 have hD:=dZ h hI
 have a:=hI.lo
 have b:=hI.hi'
 have w0:=aE h hf (show k<xs.length by omega)
 have w1:=aE h hf hl
 have p0:=(az (h.node k (by omega))).2.2.2.2 rfl
 have p1:=(az (h.node (k+1) hl)).2.2.2.2 rfl
 have l0:=lf w0 p0
 have l1:=lf w1 p1
 unfold logV
 rw [oJ (K:=1074) rfl l0 l1 (by omega) (by omega) hD.2]
 obtain⟨g1,g2,_⟩:=cA (dU (D:Int) i (uI 1074 (lnW (ys.getD k 0))) (uI 1074 (lnW (ys.getD (k+1) 0)))) D
 generalize overG (dU (D:Int) i (uI 1074 (lnW (ys.getD k 0))) (uI 1074 (lnW (ys.getD (k+1) 0)))) D=o at *
 have o64:o<18446744073709551616:=by have:=g1.2;omega
 obtain⟨e,he,hle⟩:=(fb o64).num g2
 have ev:exW o=e:=by unfold exW;rw [if_pos o64,he];rfl
 rw [ev]
 have e64:e<18446744073709551616:=by omega
 have en:=(iI hle).2.2
 obtain⟨n1,r1⟩:=zD (v:=(e:Nat)) en w0.nn.nan w1.nn.nan
 rw [← fK e64 w0.lt w1.lt] at n1 r1
 exact⟨n1,lY e64 w0.lt w1.lt,by rw [r1];omega,by rw [r1];omega⟩
end Go.Proofs.YtjjlnmihkadlmaaGreat
