/-  -/
import Derived.Test.YtfdddijdjpijbaaGreatHar
import Derived.Test.YtfdddijdjpijbaaGreatFlt
import Derived.Test.YtfdddijdjpijbaaGreatHaq
import Derived.Test.YtfdddijdjpijbaaGreatHae
set_option maxHeartbeats 1600000
set_option maxRecDepth 20000
namespace Go.Proofs.YtfdddijdjpijbaaGreat
open Go.RowKit
theorem iL {b:Nat} (h:b<9218868437227405312):U64 (b:Int)/\ah (b:Int)=false/\ae (b:Int)=b:=by
 have c:szI (b:Int)=b:=by unfold szI;omega
 have a:ah (b:Int)=false:=by unfold ah;rw [c];simp;omega
 have d:sgB (b:Int)=false:=by simp [sgB];omega
 exact⟨by unfold U64;omega,a,by rw [rank_pos a d,c]⟩
theorem Jw (neg:Bool) (n a:Nat):Ieee.Toward.down.cut neg n a=n / 2^a+(if neg=true/\n % 2^a≠0 then 1 else 0):=by
 show n / (1 <<< min a (n.log2+2))+(neg&&n % (1 <<< min a (n.log2+2)) !=0).toNat=_
 rw [Nat.one_shiftLeft];have b:n / 2^min a (n.log2+2)=n / 2^a/\n % 2^min a (n.log2+2)=n % 2^a:=by
  by_cases h:a<=n.log2+2
  ·rw [Nat.min_eq_left h];exact⟨rfl,rfl⟩
  ·rw [Nat.min_eq_right (by omega)]
   have d:n<2^(n.log2+1):=Nat.lt_log2_self;have f:(2:Nat)^(n.log2+1)<=2^(n.log2+2):=Nat.pow_le_pow_right (by decide) (by omega)
   have e:(2:Nat)^(n.log2+2)<=2^a:=Nat.pow_le_pow_right (by decide) (by omega)
   rw [Nat.div_eq_of_lt (by omega),Nat.div_eq_of_lt (by omega),Nat.mod_eq_of_lt (by omega),Nat.mod_eq_of_lt (by omega)]
   exact⟨rfl,rfl⟩
 rw [b.1,b.2]
 congr 1
 cases neg
 ·rfl
 ·by_cases c:n % 2^a=0
  ·rw [c];rfl
  ·rw [if_pos ⟨rfl,c⟩];simp [c]
theorem Fs (m p K:Nat):(m <<< (-(K:Int)+(p:Int)).toNat) / 2^(-(-(K:Int)+(p:Int))).toNat=m*2^p / 2^K/\((m <<< (-(K:Int)+(p:Int)).toNat) % 2^(-(-(K:Int)+(p:Int))).toNat=0↔m*2^p % 2^K=0):=by
 rw [Nat.shiftLeft_eq]
 by_cases h:p<=K
 ·have a:(-(K:Int)+(p:Int)).toNat=0:=by omega
  have b:(-(-(K:Int)+(p:Int))).toNat=K - p:=by omega
  have c:(2:Nat)^K=2^(K - p)*2^p:=by rw [<- Nat.pow_add,show K - p+p=K by omega]
  have d:=Nat.two_pow_pos p;rw [a,b,c,Nat.pow_zero,Nat.mul_one,Nat.mul_div_mul_right _ _ d,Nat.mul_mod_mul_right];refine⟨rfl,?_⟩
  constructor
  ·intro h;rw [h,Nat.zero_mul]
  ·intro h;rcases Nat.mul_eq_zero.1 h with h | h
   ·exact h
   ·omega
 ·have a:(-(K:Int)+(p:Int)).toNat=p - K:=by omega
  have b:(-(-(K:Int)+(p:Int))).toNat=0:=by omega
  have c:(2:Nat)^p=2^(p - K)*2^K:=by rw [<- Nat.pow_add,show p - K+K=p by omega]
  have d:=Nat.two_pow_pos K;rw [a,b,c,Nat.pow_zero,Nat.div_one,Nat.mod_one,<- Nat.mul_assoc,Nat.mul_div_cancel _ d,Nat.mul_mod_left];exact⟨rfl,Iff.rfl⟩
theorem Bw {b K:Nat} (B:K=1074) (h:ag b) (x:b % 9223372036854775808≠0\/sB b=false) :
  ∃ k:Int,Ieee.double.write ((Ieee.double.read b).integral .down)=fi k/\k*((2^K:Nat):Int)<=vI b/\vI b<(k+1)*((2^K:Nat):Int):=by
 rw [ax h];have a:=tp b;have z:(b / 9223372036854775808 % 2==1)=sB b:=rfl;have i:b % 9223372036854775808≠0->mg (b % 9223372036854775808)≠0:=fun h=>by unfold mg;split<;>omega
 rw [z] at a ⊢
 generalize b % 9223372036854775808=r at *
 generalize C:mg r=m at *
 generalize pl r=p at *
 have n:=Nat.two_pow_pos K;have v:=Nat.two_pow_pos p;obtain⟨c1,c2⟩:=Fs m p K;have f:∀ s,Ieee.double.write ((Ieee.Datum.number s m (-1074+(p:Int))).integral .down)=Ieee.double.nearest s (m*2^p / 2^K+(if s=true/\m*2^p % 2^K≠0 then 1 else 0)) 0:=fun s=>by
  show Ieee.double.nearest s (Ieee.Toward.down.cut s (m <<< (-1074+(p:Int)).toNat) (-(-1074+(p:Int))).toNat) 0=_
  have e:(-1074+(p:Int))= -(K:Int)+(p:Int):=by omega
  rw [Jw,e,c1]
  congr 2
  simp only [ne_eq,c2]
 rw [f];obtain⟨A,o⟩:∃ A,m*2^p=A:=⟨_,rfl⟩;obtain⟨P,g⟩:∃ P,2^K=P:=⟨_,rfl⟩;rw [o] at a ⊢
 rw [g] at n ⊢
 have w:=Nat.div_add_mod A P;have y:=Nat.mod_lt A n;generalize A / P=q at *
 generalize A % P=t at *
 clear f c1 c2;cases c:sB b with
 | false=>
  rw [c] at a
  refine⟨(q:Nat),?_,?_,?_⟩
  ·rw [if_neg (by simp),Nat.add_zero]
   unfold fi aI
   by_cases d:q=0
   ·rw [d,cG];rfl
   ·rw [bV _ d,im,if_neg (by omega),if_neg (by omega),Int.natAbs_natCast]
  ·rw [a];show ((q:Nat):Int)*(P:Int)<=(A:Int)
   rw [<- Int.natCast_mul,Nat.mul_comm];omega
  ·rw [a];show (A:Int)<(((q:Nat):Int)+1)*(P:Int)
   rw [Int.add_mul,<- Int.natCast_mul,Nat.mul_comm];omega
 | true=>
  rw [c] at a
  have j:r≠0:=by
   rcases x with h | h
   ·exact h
   ·rw [c] at h;cases h
  have u:A≠0:=by rw [<- o];exact Nat.mul_ne_zero (i j) (by omega)
  by_cases l:t=0
  ·refine⟨-((q:Nat):Int),?_,?_,?_⟩
   ·rw [if_neg (by simp [l]),Nat.add_zero]
    have d:q≠0:=by
     intro d;rw [d,Nat.mul_zero] at w;omega
    unfold fi aI;rw [bV _ d,gM,if_neg (by omega),if_pos (by omega),Int.natAbs_neg,Int.natAbs_natCast]
   ·rw [a];show -((q:Nat):Int)*(P:Int)<=-(A:Int)
    rw [Int.neg_mul,<- Int.natCast_mul,Nat.mul_comm];omega
   ·rw [a];show -(A:Int)<(-((q:Nat):Int)+1)*(P:Int)
    rw [Int.add_mul,Int.neg_mul,<- Int.natCast_mul,Nat.mul_comm];omega
  ·refine⟨-((q+1:Nat):Int),?_,?_,?_⟩
   ·rw [if_pos ⟨rfl,l⟩];unfold fi aI;rw [bV _ (by omega),gM,if_neg (by omega),if_pos (by omega),Int.natAbs_neg,Int.natAbs_natCast]
   ·rw [a];show -((q+1:Nat):Int)*(P:Int)<=-(A:Int)
    rw [Int.neg_mul,<- Int.natCast_mul,Nat.add_mul,Nat.mul_comm (q)];omega
   ·rw [a];show -(A:Int)<(-((q+1:Nat):Int)+1)*(P:Int)
    rw [Int.add_mul,Int.neg_mul,<- Int.natCast_mul,Nat.add_mul,Nat.mul_comm (q)];omega
theorem qB (b:Nat) (s:Bool) (m:Nat) (i:Int) (a:FloatKind.f64.decode b=.number s m i):Extern.MathFloor.toIntegral "math.archFloor" .down #[.float .f64 b]=pure (.float .f64 (FloatKind.f64.encode ((Ieee.Datum.number s m i).integral .down))):=by
 conv=>lhs;whnf
 rw [a]
theorem qC (b:Nat) (h:ag b) (w:World):(callFunc 119 #[.float .f64 b]).run Tryz.prog w=.ok (.value (.float .f64 (Ieee.double.write ((Ieee.double.read b).integral .down)))) w:=by
 refine (run_callFunc_extern (e:=Extern.MathFloor.toIntegral "math.archFloor" .down) Tryz.func119 (by kernel_rfl) (by kernel_rfl) (by kernel_rfl) (by kernel_rfl) _ w).trans ?_
 have e:FloatKind.f64.decode b=_:=ax h;rw [qB b _ _ _ e,ax h]
 rfl
theorem lN (b f:Nat) (w:World) (h:ag b) (a:Ieee.double.write ((Ieee.double.read b).integral .down)=f) :
  Calls Tryz.prog 81 #[.float .f64 b] w fun e c=>e=.returned (.float .f64 f)/\c=w:=by
 have d:=qC b h;rw [a] at d
 clear a h
 go_enter Tryz.func81,Tryz.ntmps81
 go_wp2
 go_ret
 exact⟨rfl,rfl⟩
end Go.Proofs.YtfdddijdjpijbaaGreat
namespace Go.Proofs.YtfdddijdjpijbaaGreat
theorem vR {s:Bool} {r:Nat} (h:r<9218868437227405312):vI (wrd s r)=sgZ s (V r)/\ag (wrd s r)/\wrd s r<18446744073709551616/\sB (wrd s r)=s:=by
 cases s
 ·have e:wrd false r=r:=rfl;rw [e];refine⟨?_,?_,by omega,?_⟩
  ·rw [iq];unfold sB aV;rw [show r / 9223372036854775808 % 2=0 by omega,show r % 9223372036854775808=r by omega];rfl
  ·unfold ag;omega
  ·unfold sB;rw [show r / 9223372036854775808 % 2=0 by omega];rfl
 ·have e:wrd true r=9223372036854775808+r:=rfl;rw [e];refine⟨?_,?_,by omega,?_⟩
  ·rw [iq];unfold sB aV;rw [show (9223372036854775808+r) / 9223372036854775808 % 2=1 by omega,show (9223372036854775808+r) % 9223372036854775808=r by omega];rfl
  ·unfold ag;omega
  ·unfold sB;rw [show (9223372036854775808+r) / 9223372036854775808 % 2=1 by omega];rfl
theorem mX {T e:Int} (h:T≠0):aI T e=wrd (decide (T<0)) (nearR T.natAbs e):=by
 unfold aI wrd;rw [if_neg h]
 by_cases a:T<0
 ·rw [if_pos a,if_pos (by simpa using a)]
 ·rw [if_neg a,if_neg (by simpa using a)]
theorem Bz {k:Nat} {T:Int}:sgZ (decide (T<0)) (V (nearR T.natAbs (-1074 - (k:Int))))=rI k T:=by
 unfold sgZ rI
 by_cases a:T<0
 ·rw [if_pos (by simpa using a),if_pos a]
 ·rw [if_neg (by simpa using a),if_neg a]
theorem vS (k:Nat):rI k 0=0:=by
 unfold rI;rw [if_neg (by decide),Int.natAbs_zero,ip (by omega),bp];rfl
theorem tL {x y:Nat} (f:ag x) (h:ag y) (g:AS 0 (vI x+vI y)):∃ z,floatBits .add .f64 x y=some z/\ag z/\z<18446744073709551616/\vI z=rI 0 (vI x+vI y):=by
 refine⟨_,lv f h,?_⟩
 unfold jc;generalize vI x+vI y=T at *
 by_cases d:T=0
 ·rw [if_pos d,d,vS]
  split
  ·exact⟨by unfold ag;decide,by decide,by decide⟩
  ·exact⟨by unfold ag;decide,by decide,by decide⟩
 ·rw [if_neg d,mX d];have e:nearR T.natAbs (-1074)<9218868437227405312:=g;obtain⟨a,b,c,_⟩:=vR (s:=decide (T<0)) e;refine⟨b,c,?_⟩
  rw [a];exact Bz (k:=0)
theorem Fu {x y:Nat} (f:ag x) (h:ag y) (g:AS 0 (vI x - vI y)):∃ z,floatBits .sub .f64 x y=some z/\ag z/\z<18446744073709551616/\vI z=rI 0 (vI x - vI y):=by
 refine⟨_,oR f h,?_⟩
 unfold jc;generalize vI x - vI y=T at *
 by_cases d:T=0
 ·rw [if_pos d,d,vS]
  split
  ·exact⟨by unfold ag;decide,by decide,by decide⟩
  ·exact⟨by unfold ag;decide,by decide,by decide⟩
 ·rw [if_neg d,mX d];have e:nearR T.natAbs (-1074)<9218868437227405312:=g;obtain⟨a,b,c,_⟩:=vR (s:=decide (T<0)) e;refine⟨b,c,?_⟩
  rw [a];exact Bz (k:=0)
theorem tM (x:Nat):(vI x).natAbs=aV x:=by rw [iq];unfold sgZ;cases sB x<;>simp
theorem qD {x:Nat} (h:vI x≠0):decide (vI x<0)=sB x:=by
 rw [iq] at h ⊢
 unfold sgZ at *
 cases sB x
 ·simp
 ·simp only [if_true] at *;simp;omega
theorem Jx {a b:Int} (f:a≠0) (e:b≠0):(decide (a<0)^^decide (b<0))=decide (a*b<0):=by
 rcases Int.lt_or_lt_of_ne f with c | c<;>rcases Int.lt_or_lt_of_ne e with d | d
 ·have:=Int.mul_pos_of_neg_of_neg c d;simp [c,d];omega
 ·have:=Int.mul_neg_of_neg_of_pos c d;simp [c,this];omega
 ·have:=Int.mul_neg_of_pos_of_neg c d;simp [d,this];omega
 ·have:=Int.mul_pos c d;rw [decide_eq_false (show ¬ a<0 by omega),decide_eq_false (show ¬ b<0 by omega),decide_eq_false (show ¬ a*b<0 by omega)];rfl
theorem tN {x y K:Nat} (l:K=1074) (i:ag x) (j:ag y) (g:AS K (vI x*vI y)):∃ z,floatBits .mul .f64 x y=some z/\ag z/\z<18446744073709551616/\vI z=rI K (vI x*vI y):=by
 refine⟨_,gg i j,?_⟩
 unfold mulR;rw [<- tM,<- tM,<- Int.natAbs_mul]
 by_cases f:vI x*vI y=0
 ·rw [f,Int.natAbs_zero,if_pos rfl,vS];obtain⟨a,b,c,_⟩:=vR (s:=sB x^^sB y) (r:=0) (by decide)
  refine⟨b,c,?_⟩
  rw [a,bp];unfold sgZ;split<;>rfl
 ·have e:vI x≠0:=fun h=>f (by rw [h,Int.zero_mul])
  have d:vI y≠0:=fun h=>f (by rw [h,Int.mul_zero])
  rw [if_neg (by omega),<- qD e,<- qD d,Jx e d]
  unfold AS at g
  rw [show (-1074 - (K:Int))= -2148 by omega] at g
  obtain⟨a,b,c,_⟩:=vR (s:=decide (vI x*vI y<0)) g;refine⟨b,c,?_⟩
  rw [a];have:=Bz (k:=K) (T:=vI x*vI y);rw [show (-1074 - (K:Int))= -2148 by omega] at this
  exact this
theorem Jy {q k:Nat} (a:4503599627370496<=k) (b:k<9007199254740992):mg (q*4503599627370496+k)=k/\pl (q*4503599627370496+k)=q:=by
 unfold mg pl;rw [if_neg (by omega)]
 omega
theorem Jz {m E:Nat} (h:m<9007199254740992) (o:52<=E) (i:E<=1900):Rep ((m*2^E:Nat):Int):=by
 by_cases c:m=0
 ·subst c;rw [Nat.zero_mul];exact Iw
 have a:=Nat.log2_self_le c;have b:m<2^(m.log2+1):=Nat.lt_log2_self;have g:m.log2<53:=(Nat.log2_lt c).2 (by omega)
 generalize m.log2=l at a b g
 obtain⟨k,f⟩:∃ k,m*2^(52 - l)=k:=⟨_,rfl⟩;have d:4503599627370496<=k:=by
  have:=Nat.mul_le_mul_right (2^(52 - l)) a;rw [<- Nat.pow_add,show l+(52 - l)=52 by omega,f] at this;exact this
 have e:k<9007199254740992:=by
  have:=Nat.mul_lt_mul_of_pos_right b (Nat.two_pow_pos (52 - l));rw [<- Nat.pow_add,show l+1+(52 - l)=53 by omega,f] at this;exact this
 obtain⟨n,j⟩:=Jy (q:=E+l - 52) d e;refine⟨(E+l - 52)*4503599627370496+k,by omega,?_⟩
 unfold V;rw [n,j,Int.natAbs_natCast,<- f,Nat.mul_assoc,<- Nat.pow_add,show 52 - l+(E+l - 52)=E by omega]
theorem qE {j:Int} {E:Nat} (f: -9007199254740992<j) (d:j<9007199254740992) (c:52<=E) (a:E<=1900):Rep (j*((2^E:Nat):Int)):=by
 obtain⟨r,b,e⟩:=Jz (m:=j.natAbs) (E:=E) (by omega) c a
 refine⟨r,b,?_⟩
 rw [Int.natAbs_natCast] at e
 rw [bg];exact e
theorem mY {k E:Nat} {T:Int} (n:52<=E) (b:E<=1900) {G P:Int} (f:G=((2^E:Nat):Int)) (d:P=((2^k:Nat):Int)) (s: -(2097152*(G*P))<=T) (x:T<=2097152*(G*P)) :
  AS k T/\-(G*P)<=rI k T*P - T/\rI k T*P - T<=G*P:=by
 have e:0<G:=by rw [f];have:=Nat.two_pow_pos E;omega
 have g:0<P:=by rw [d];have:=Nat.two_pow_pos k;omega
 have a:0<G*P:=Int.mul_pos e g;obtain⟨j,c⟩:∃ j,T / (G*P)=j:=⟨_,rfl⟩;have v:j*(G*P)<=T:=by rw [<- c];exact Int.ediv_mul_le T (by omega)
 have t:T<(j+1)*(G*P):=by rw [<- c];exact Int.lt_ediv_add_one_mul_self T a
 have y: -2097152<=j:=by
  rw [<- c];refine (Int.le_ediv_iff_mul_le a).2 ?_
  rw [Int.neg_mul];exact s
 have z:j<=2097152:=by
  by_cases h:2097152<j
  ·have:=Int.mul_lt_mul_of_pos_right h a;omega
  ·omega
 have l:Rep (j*G):=by rw [f];exact qE (by omega) (by omega) n b
 have m:Rep ((j+1)*G):=by rw [f];exact qE (by omega) (by omega) n b
 have p:j*G*((2^k:Nat):Int)<=T:=by rw [<- d,Int.mul_assoc];exact v
 have i:T<=(j+1)*G*((2^k:Nat):Int):=by rw [<- d,Int.mul_assoc];omega
 have q:=pR l p;have r:=lw m i;have w:=Int.mul_le_mul_of_nonneg_right q (show 0<=P by omega)
 have o:=Int.mul_le_mul_of_nonneg_right r (show 0<=P by omega)
 rw [Int.mul_assoc] at w o
 have u:(j+1)*(G*P)=j*(G*P)+G*P:=by rw [Int.add_mul,Int.one_mul]
 rw [u] at t o
 exact⟨AT l m p i,by omega,by omega⟩
structure Scale (K:Nat) (g:Int):Prop where
 k:K=1074
 pos:0<g
 unit:((2^K:Nat):Int)=1267650600228229401496703205376*g
 grid:((2^1064:Nat):Int)=1237940039285380274899124224*g
 at_:∀ q p:Nat,q+974=p->((2^p:Nat):Int)=((2^q:Nat):Int)*g
theorem mZ {a b c:Nat} (h:a+b=c):((2^c:Nat):Int)=((2^a:Nat):Int)*((2^b:Nat):Int):=by
 subst h;rw [Nat.pow_add,Int.natCast_mul]
theorem QO:∃ K g,Scale K g:=by
 obtain⟨e,i⟩:∃ e,e=974:=⟨_,rfl⟩;obtain⟨K,f⟩:∃ K,K=1074:=⟨_,rfl⟩;obtain⟨L,d⟩:∃ L,L=1064:=⟨_,rfl⟩;refine⟨K,((2^e:Nat):Int),f,by have:=Nat.two_pow_pos e;omega,?_,?_,fun q p h=>mZ (by omega)⟩
 ·rw [mZ (a:=100) (b:=e) (c:=K) (by omega)];rfl
 ·rw [<- d,mZ (a:=90) (b:=e) (c:=L) (by omega)];rfl
theorem JA {K:Nat} {g:Int} (j:Scale K g) {x y:Nat} (l:ag x) (d:ag y) (p: -(2596148429267413814265248164610048*g)<=vI x+vI y) (o:vI x+vI y<=2596148429267413814265248164610048*g) :
  ∃ z,floatBits .add .f64 x y=some z/\ag z/\z<18446744073709551616/\-(1237940039285380274899124224*g)<=vI z - (vI x+vI y)/\vI z - (vI x+vI y)<=1237940039285380274899124224*g:=by
 obtain⟨E,i⟩:∃ E,E=1064:=⟨_,rfl⟩;have c:=j.grid;rw [<- i] at c
 obtain⟨f,a,b⟩:=mY (k:=0) (E:=E) (T:=vI x+vI y) (by omega) (by omega) (P:=1) rfl rfl (by rw [c];omega) (by rw [c];omega)
 obtain⟨z,m,h,n,e⟩:=tL l d f;rw [c] at a b
 rw [<- e] at a b
 exact⟨z,m,h,n,by omega,by omega⟩
theorem yu {K:Nat} {g:Int} (j:Scale K g) {x y:Nat} (l:ag x) (d:ag y) (p: -(2596148429267413814265248164610048*g)<=vI x - vI y) (o:vI x - vI y<=2596148429267413814265248164610048*g) :
  ∃ z,floatBits .sub .f64 x y=some z/\ag z/\z<18446744073709551616/\-(1237940039285380274899124224*g)<=vI z - (vI x - vI y)/\vI z - (vI x - vI y)<=1237940039285380274899124224*g:=by
 obtain⟨E,i⟩:∃ E,E=1064:=⟨_,rfl⟩;have c:=j.grid;rw [<- i] at c
 obtain⟨f,a,b⟩:=mY (k:=0) (E:=E) (T:=vI x - vI y) (by omega) (by omega) (P:=1) rfl rfl (by rw [c];omega) (by rw [c];omega)
 obtain⟨z,m,h,n,e⟩:=Fu l d f;rw [c] at a b
 rw [<- e] at a b
 exact⟨z,m,h,n,by omega,by omega⟩
theorem qF {K:Nat} {g:Int} (i:Scale K g) {x y:Nat} {c:Int} (t:ag x) (p:ag y) (hc:vI y=c*g) (o: -(3291009114642412084309938365114701009965471731267159726697218048*g)<=c*vI x) (n:c*vI x<=3291009114642412084309938365114701009965471731267159726697218048*g) :
  ∃ z,floatBits .mul .f64 x y=some z/\ag z/\z<18446744073709551616/\-(1569275433846670190958947355801916604025588861116008628224*g)<=1267650600228229401496703205376*vI z - c*vI x/\1267650600228229401496703205376*vI z - c*vI x<=1569275433846670190958947355801916604025588861116008628224*g:=by
 obtain⟨E,s⟩:∃ E,E=1064:=⟨_,rfl⟩;have l:=i.grid;rw [<- s] at l
 have h:=i.pos;have e:vI x*vI y=(c*vI x)*g:=by rw [hc,<- Int.mul_assoc,Int.mul_comm (vI x) c]
 have d:((2^E:Nat):Int)*((2^K:Nat):Int)=(1569275433846670190958947355801916604025588861116008628224*g)*g:=by
  rw [l,i.unit,<- Int.mul_assoc,show (1237940039285380274899124224*g*1267650600228229401496703205376:Int)=1569275433846670190958947355801916604025588861116008628224*g by omega]
 have m:=Int.mul_le_mul_of_nonneg_right o (show 0<=g by omega)
 have u:=Int.mul_le_mul_of_nonneg_right n (show 0<=g by omega)
 have j:(2097152:Int)*(1569275433846670190958947355801916604025588861116008628224*g*g)=3291009114642412084309938365114701009965471731267159726697218048*g*g:=by rw [<- Int.mul_assoc,<- Int.mul_assoc];rfl
 rw [Int.neg_mul] at m
 obtain⟨f,a,b⟩:=mY (k:=K) (E:=E) (T:=vI x*vI y) (by omega) (by omega) rfl rfl (by rw [d,j,e];exact m) (by rw [d,j,e];exact u)
 obtain⟨z,v,r,w,q⟩:=tN i.k t p f;rw [d,e,<- e,<- q,e,i.unit,<- Int.mul_assoc,Int.mul_comm (vI z),<- Int.sub_mul] at a b
 refine⟨z,v,r,w,?_,?_⟩
 ·rw [<- Int.neg_mul] at a
  exact Int.le_of_mul_le_mul_right a h
 ·exact Int.le_of_mul_le_mul_right b h
end Go.Proofs.YtfdddijdjpijbaaGreat
namespace Go.Proofs.YtfdddijdjpijbaaGreat
open Go.RowKit
theorem aZ (b:Nat) (w:World) (h:U64 b) :
  Calls Tryz.prog 70 #[.float .f64 b] w fun e a=>e=.returned (.bool (ah b))/\a=w:=by
 have c:(FloatKind.f64.format.order b b !=some .eq)=ah b:=by rw [bne,Mf h,Bool.not_not]
 clear h
 go_enter Tryz.func70,Tryz.ntmps70
 go_wp2
 go_ret
 exact⟨rfl,rfl⟩
theorem qG (x y:Int):(compare x y==.gt)=decide (y<x):=by
 show (compareOfLessAndEq x y==.gt)=_
 unfold compareOfLessAndEq
 by_cases a:x<y
 ·have:¬ y<x:=by omega
  simp [a,this]
 ·by_cases b:x=y
  ·simp [b]
  ·have:y<x:=by omega
   simp [a,b,this]
theorem lO {a b:Nat} (f:U64 a) (e:U64 b) (d:ah a=false) (c:ah b=false):(FloatKind.f64.format.order a b==some .gt)=decide (ae b<ae a):=by
 rw [kC (by have:=f.2;omega) (by have:=e.2;omega) d c,<- qG];rfl
theorem vT {r:Nat} (h:r<=9218868437227405312):ah (r:Int)=false:=by unfold ah szI;rw [decide_eq_false_iff_not];omega
theorem yv {r:Nat} (h:r<=9218868437227405312):ae (r:Int)=r:=by
 unfold ae;have a:sgB (r:Int)=false:=by unfold sgB;rw [decide_eq_false_iff_not];omega
 rw [vT h,a]
 show szI (r:Int)=r
 unfold szI;omega
theorem szN (x:Nat):szI (x:Int)=((x % 9223372036854775808:Nat):Int):=by unfold szI;omega
theorem qH {x:Nat} (h:ah (x:Int)=false):(FloatKind.f64.format.order (x % 9223372036854775808) 9218868437227405311==some .gt)=!aE (x:Int):=by
 have b:=fj h;have e:aE (x:Int)=decide (x % 9223372036854775808<9218868437227405312):=by
  unfold aE;rw [szN];exact decide_eq_decide.2 (by omega)
 rw [e];generalize x % 9223372036854775808=a at *
 rw [lO (af (by omega)) (af (by omega)) (vT b) (vT (r:=9218868437227405311) (by omega)),yv b,yv (r:=9218868437227405311) (by omega)]
 by_cases c:a<9218868437227405312
 ·rw [decide_eq_true c];exact decide_eq_false (by omega)
 ·rw [decide_eq_false c];exact decide_eq_true (by omega)
theorem lP {x:Nat} (h:ah (x:Int)=true):aE (x:Int)=false:=by
 unfold ah at h;unfold aE
 have:=of_decide_eq_true h;exact decide_eq_false (by omega)
theorem JB (x:Nat) (w:World) (h:U64 x) :
  Calls Tryz.prog 111 #[.float .f64 x] w fun e a=>e=.returned (.float .f64 (x % 9223372036854775808))/\a=w:=by
 have f:=sU;have d:=cg;have b:=dK h;have c:(szI (x:Int)).toNat=x % 9223372036854775808:=by rw [szN];rfl
 clear h
 go_enter Tryz.func111,Tryz.ntmps111
 go_wp2
 go_ret
 exact⟨rfl,rfl⟩
theorem iM (x:Nat) (g:Bool) (w:World) (h:U64 x) (c:(FloatKind.f64.format.order (x % 9223372036854775808) 9218868437227405311==some .gt)=g) :
  Calls Tryz.prog 71 #[.float .f64 x,.int .i64 0] w fun e b=>e=.returned (.bool g)/\b=w:=by
 have H:=hideS fun w=>JB x w h
 clear h;generalize x % 9223372036854775808=a at *
 go_enter Tryz.func71,Tryz.ntmps71
 go_wp2_with fail
 refine (H.out _).mono ?_
 rintro e b ⟨rfl,rfl⟩
 go_wp2_with fail
 go_ret
 exact⟨rfl,rfl⟩
theorem DI (k h l:Nat) (w:World) (b:floatBits .mul .f64 k 4604418534311723008=some h) (a:floatBits .mul .f64 k 4461442080421002358=some l) :
  Calls Tryz.prog 82 #[.float .f64 k] w fun e c=>e=.returned (.tuple #[.float .f64 h,.float .f64 l])/\c=w:=by
 have f:=fun w=>run_float_arith (P:=Tryz.prog) w .mul 27 .f64 _ _ _ b
 have d:=fun w=>run_float_arith (P:=Tryz.prog) w .mul 27 .f64 _ _ _ a
 clear b a
 go_enter Tryz.func82,Tryz.ntmps82
 go_wp2
 go_ret2
 exact⟨rfl,rfl⟩
theorem Nf (w:World) :
  Calls Tryz.prog 80 #[.int .i64 1] w fun e a=>e=.returned (.float .f64 9218868437227405312)/\a=w:=by
 have b:=cg
 go_enter Tryz.func80,Tryz.ntmps80
 go_wp2
 go_ret
 exact⟨rfl,rfl⟩
theorem Ng (x:Nat) (w:World) (h:U64 x) (hn:ah x=true) :
  Calls Tryz.prog 54 #[.float .f64 x] w fun e a=>e=.returned (.float .f64 x)/\a=w:=by
 have H:=hideS (aZ x w h);rw [hn] at H
 clear h hn
 go_enter Tryz.func54,Tryz.ntmps54
 go_wp2_with fail
 refine H.out.mono ?_
 rintro e a ⟨rfl,rfl⟩
 go_wp2_with fail
 go_ret
 exact⟨rfl,rfl⟩
theorem Py (x:Nat) (g e:Bool) (w:World) (h:U64 x) (hn:ah x=false) (d:(FloatKind.f64.format.order x 4649456441864749056==some .gt)=g) (c:(FloatKind.f64.format.order x 4649456441864749056==some .eq)=e) (a:(g||e)=true) :
  Calls Tryz.prog 54 #[.float .f64 x] w fun e b=>e=.returned (.float .f64 9218868437227405312)/\b=w:=by
 have H:=hideS (aZ x w h);rw [hn] at H
 clear h hn;cases g<;>cases e<;>first | (cases a;done) | skip
 all_goals
  clear a
  go_enter Tryz.func54,Tryz.ntmps54
  go_wp2_with fail
  refine H.out.mono ?_
  rintro e b ⟨rfl,rfl⟩
  go_wp2_with fail
  refine (Nf _).mono ?_
  rintro e b ⟨rfl,rfl⟩
  go_wp2_with fail
  go_ret
  exact⟨rfl,rfl⟩
theorem Pz (x:Nat) (g e:Bool) (w:World) (h:U64 x) (hn:ah x=false) (d:(FloatKind.f64.format.order x 4649456441864749056==some .gt)=false) (c:(FloatKind.f64.format.order x 4649456441864749056==some .eq)=false)
  (i:(FloatKind.f64.format.order x 13873145138068324352==some .lt)=g) (f:(FloatKind.f64.format.order x 13873145138068324352==some .eq)=e) (a:(g||e)=true) :
  Calls Tryz.prog 54 #[.float .f64 x] w fun e b=>e=.returned (.float .f64 0)/\b=w:=by
 have H:=hideS (aZ x w h);rw [hn] at H
 clear h hn;cases g<;>cases e<;>first | (cases a;done) | skip
 all_goals
  clear a
  go_enter Tryz.func54,Tryz.ntmps54
  go_wp2_with fail
  refine H.out.mono ?_
  rintro e b ⟨rfl,rfl⟩
  go_wp2_with fail
  go_ret
  exact⟨rfl,rfl⟩
theorem lQ (x y t f hi lo d r p:Nat) (k:Int) (w:World) (h:U64 x) (hn:ah x=false) (Q:(FloatKind.f64.format.order x 4649456441864749056==some .gt)=false) (O:(FloatKind.f64.format.order x 4649456441864749056==some .eq)=false)
  (K:(FloatKind.f64.format.order x 13873145138068324352==some .lt)=false) (I:(FloatKind.f64.format.order x 13873145138068324352==some .eq)=false)
  (u:floatBits .mul .f64 x 4609176140021203710=some y) (B:floatBits .add .f64 y 4602678819172646912=some t) (N:Hid (∀ w,Calls Tryz.prog 81 #[.float .f64 t] w fun e a=>e=.returned (.float .f64 f)/\a=w))
  (v:floatBits .mul .f64 f 4604418534311723008=some hi) (s:floatBits .mul .f64 f 4461442080421002358=some lo) (G:floatBits .sub .f64 x hi=some d) (E:floatBits .sub .f64 d lo=some r)
  (J:Hid (bj expL r=some p)) (up:Hid (U64 p)) (A:floatToIntVal .f64 f .i64=some k) (X: -2000<=k/\k<=2000) (l: -2000<=aP p/\aP p<=2000) (c: -9223372036854775808<=az p/\az p<=9223372036854775807) :
  Calls Tryz.prog 54 #[.float .f64 x] w fun e a=>e=.returned (.float .f64 (aI (az p) (aP p+k)))/\Below w.heap.size w a:=by
 have H:=hideS (aZ x w h);rw [hn] at H
 have V:=fun w=>run_float_arith (P:=Tryz.prog) w .mul 27 .f64 _ _ _ u
 have U:=fun w=>run_float_arith (P:=Tryz.prog) w .add 27 .f64 _ _ _ B
 have Y:=fun w=>run_float_arith (P:=Tryz.prog) w .sub 27 .f64 _ _ _ G
 have R:=fun w=>run_float_arith (P:=Tryz.prog) w .sub 27 .f64 _ _ _ E
 have Z:=fun w=>run_convert_float_int (P:=Tryz.prog) w 27 3 .f64 .i64 f k (by kernel_rfl) Tryz.underlying3 A
 have L:Hid (∀ w,Calls Tryz.prog 82 #[.float .f64 f] w fun e a=>e=.returned (.tuple #[.float .f64 hi,.float .f64 lo])/\a=w):=fun w=>DI f hi lo w v s
 have b:Hid (∀ w,Calls Tryz.prog 85 #[.float .f64 p] w fun e a=>e=.returned (.tuple #[.int .i64 (az p),.int .i64 (aP p),.bool (ay p)])/\a=w):=fun w=>fI p p w rfl up.out
 have i:Hid (∀ w,Calls Tryz.prog 86 #[.int .i64 (az p),.int .i64 (aP p+k)] w fun e a=>e=.returned (.float .f64 (aI (az p) (aP p+k)))/\∃ n,a=w.drewN n):=fun w=>ce _ _ w c.1 c.2
 clear h hn u B v s G E A c;generalize aI (az p) (aP p+k)=M at i
 generalize az p=sm at i b
 generalize aP p=se at i b l
 generalize ay p=W at b
 go_enter Tryz.func54,Tryz.ntmps54
 go_wp2_with fail
 refine (turned H.out).mono ?_
 rintro e a ⟨rfl,rfl⟩;clear H
 go_wp2_with fail
 refine (turned (N.out _)).mono ?_
 rintro e a ⟨rfl,rfl⟩
 go_wp2_with fail
 refine (turned (L.out _)).mono ?_
 rintro e a ⟨rfl,rfl⟩
 go_wp2_with fail
 have z:=hideS (vQ w);refine z.out.mono ?_
 rintro e o ⟨rfl,F,D⟩;have g:=hideS D;have C:Hid (Calls Tryz.prog 83 #[.slice (some ⟨w.heap.size,0,none⟩) 14 14,.float .f64 r] o fun e a=>∃ j,e=.returned (.float .f64 j)/\Ag (bj expL r) j/\∃ q,a=o.drewN q):=pT _ _ _ 14 r 14 expL o F rfl (by decide)
 rw [J.out] at C
 clear F D z
 go_wp2_with fail
 refine C.out.mono ?_
 rintro e S ⟨j,rfl,m,q,rfl⟩;obtain rfl:=cz m
 go_wp2_with fail
 refine (turned (b.out _)).mono ?_
 rintro e a ⟨rfl,rfl⟩
 go_wp2_with fail
 refine (i.out _).mono ?_
 rintro e a ⟨rfl,T,rfl⟩
 go_wp2_with fail
 go_ret
 exact⟨rfl,⟨g.out.os,g.out.tape,g.out.output,g.out.size,g.out.block⟩⟩
end Go.Proofs.YtfdddijdjpijbaaGreat
namespace Go.Proofs.YtfdddijdjpijbaaGreat
theorem lS (b:Nat) (h:decide (b % 9223372036854775808<9218868437227405312)=true):ag b:=by unfold ag;exact of_decide_eq_true h
theorem go {K:Nat} {g:Int} (c:Scale K g) {b m p:Nat} (q:Nat) (a:sB b=false) (f:mg (b % 9223372036854775808)=m) (e:pl (b % 9223372036854775808)=p) (d:q+974=p):vI b=((m*2^q:Nat):Int)*g:=by
 rw [iq,a];unfold sgZ aV V;rw [if_neg (by decide),f,e,Int.natCast_mul,c.at_ q p d,Int.natCast_mul,Int.mul_assoc]
theorem vU {K:Nat} {g:Int} (a:Scale K g):vI 4609176140021203710=1828833234529184396638827839488*g:=by
 rw [go a (b:=4609176140021203710) 48 (by decide+kernel) (m:=6497320848556798) (by decide+kernel) (p:=1022) (by decide+kernel) rfl];rfl
theorem BA {K:Nat} {g:Int} (a:Scale K g):vI 4602678819172646912=633825300114114700748351602688*g:=by
 rw [go a (b:=4602678819172646912) 47 (by decide+kernel) (m:=4503599627370496) (by decide+kernel) (p:=1021) (by decide+kernel) rfl];rfl
theorem BB {K:Nat} {g:Int} (a:Scale K g):vI 4604418534311723008=878668439241424593572830642176*g:=by
 rw [go a (b:=4604418534311723008) 47 (by decide+kernel) (m:=6243314766446592) (by decide+kernel) (p:=1021) (by decide+kernel) rfl];rfl
theorem Fv {K:Nat} {g:Int} (a:Scale K g):vI 4461442080421002358=241894980045432881152*g:=by
 rw [go a (b:=4461442080421002358) 15 (by decide+kernel) (m:=7382048951581814) (by decide+kernel) (p:=989) (by decide+kernel) rfl];rfl
theorem lT {K:Nat} {g:Int} (c:Scale K g) {m:Int} (f: -9007199254740992<=m) (e:m<=9007199254740992):vI (fi m)=1267650600228229401496703205376*(m*g)/\ag (fi m)/\fi m<18446744073709551616:=by
 obtain⟨a,b,_,d⟩:=nJ c.k f e;refine⟨?_,b,d⟩
 rw [a,c.unit,<- Int.mul_assoc,Int.mul_comm m,Int.mul_assoc]
theorem vV {x y t:Nat} (f:ag x) (g:ag y) (d:sB y=false) (c:floatBits .add .f64 x y=some t):t % 9223372036854775808≠0\/sB t=false:=by
 rw [lv f g] at c
 have e:jc (x / 9223372036854775808 % 2==1) (y / 9223372036854775808 % 2==1) (vI x+vI y)=t:=Option.some.inj c;have a:(y / 9223372036854775808 % 2==1)=false:=d;rw [a] at e
 unfold jc at e
 generalize vI x+vI y=T at e
 by_cases b:T=0
 ·rw [if_pos b,Bool.and_false,if_neg (by decide)] at e
  right;rw [<- e];rfl
 ·left
  rw [if_neg b,mX b] at e
  have h:=Dk (T:=T.natAbs) (r:=1) (k:=0) (by decide) (by rw [show V 1=1 by decide];omega)
  have j:=jh T.natAbs (-1074);have i:1<=nearR T.natAbs (-1074):=h;rw [<- e];unfold wrd;generalize nearR T.natAbs (-1074)=r at *
  split<;>omega
theorem BC {X Y t Q hi lo d r g:Int} (a: -(945667347770259133516540591210496*g)<X) (k:X<900031926162042875062659275816960*g)
  (y1: -(1569275433846670190958947355801916604025588861116008628224*g)<=1267650600228229401496703205376*Y - 1828833234529184396638827839488*X) (j:1267650600228229401496703205376*Y - 1828833234529184396638827839488*X<=1569275433846670190958947355801916604025588861116008628224*g)
  (t1: -(1237940039285380274899124224*g)<=t - (Y+633825300114114700748351602688*g)) (m:t - (Y+633825300114114700748351602688*g)<=1237940039285380274899124224*g)
  (o:1267650600228229401496703205376*Q<=t) (p:t<1267650600228229401496703205376*Q+1267650600228229401496703205376*g)
  (b: -(1569275433846670190958947355801916604025588861116008628224*g)<=1267650600228229401496703205376*hi - 878668439241424593572830642176*(1267650600228229401496703205376*Q)) (c:1267650600228229401496703205376*hi - 878668439241424593572830642176*(1267650600228229401496703205376*Q)<=1569275433846670190958947355801916604025588861116008628224*g)
  (n: -(1569275433846670190958947355801916604025588861116008628224*g)<=1267650600228229401496703205376*lo - 241894980045432881152*(1267650600228229401496703205376*Q)) (l:1267650600228229401496703205376*lo - 241894980045432881152*(1267650600228229401496703205376*Q)<=1569275433846670190958947355801916604025588861116008628224*g)
  (e: -(1237940039285380274899124224*g)<=d - (X - hi)) (i:d - (X - hi)<=1237940039285380274899124224*g)
  (h: -(1237940039285380274899124224*g)<=r - (d - lo)) (f:r - (d - lo)<=1237940039285380274899124224*g) :
  -(633825300114114700748351602688*g)<=r/\r<=633825300114114700748351602688*g:=by
 constructor<;>omega
theorem Fw {K:Nat} {g:Int} (a:Scale K g) {x:Nat} (B:ag x) (H: -(945667347770259133516540591210496*g)<vI x) (X:vI x<900031926162042875062659275816960*g) :
  ∃ (y t hi lo d r:Nat) (k:Int),floatBits .mul .f64 x 4609176140021203710=some y/\floatBits .add .f64 y 4602678819172646912=some t/\ag t/\Ieee.double.write ((Ieee.double.read t).integral .down)=fi k/\k*((2^K:Nat):Int)<=vI t/\vI t<(k+1)*((2^K:Nat):Int)/\-2000<=k/\k<=2000/\
   floatBits .mul .f64 (fi k) 4604418534311723008=some hi/\floatBits .mul .f64 (fi k) 4461442080421002358=some lo/\floatBits .sub .f64 x hi=some d/\floatBits .sub .f64 d lo=some r/\ag r/\r<18446744073709551616/\-(633825300114114700748351602688*g)<=vI r/\vI r<=633825300114114700748351602688*g:=by
 have hg:=a.pos;obtain⟨y,P,s,_,T,Y⟩:=qF a B (lS 4609176140021203710 (by decide)) (vU a) (by omega) (by omega)
 have p:=BA a;obtain⟨t,z,w,_,E,D⟩:=JA a s (lS 4602678819172646912 (by decide)) (by rw [p];omega) (by rw [p];omega)
 rw [p] at E D
 obtain⟨k,k0,f,i⟩:=Bw a.k w (vV s (lS 4602678819172646912 (by decide)) (by decide+kernel) z)
 have j:=f;have n:=i;rw [a.unit,<- Int.mul_assoc,Int.mul_comm k,Int.mul_assoc] at f
 rw [a.unit,Int.add_mul,Int.one_mul,<- Int.mul_assoc,Int.mul_comm k,Int.mul_assoc] at i
 have c: -2000<=k:=by
  by_cases h: -2000<=k
  ·exact h
  ·have:=Int.mul_le_mul_of_nonneg_right (show k<=-2001 by omega) (show 0<=g by omega)
   omega
 have e:k<=2000:=by
  by_cases h:k<=2000
  ·exact h
  ·have:=Int.mul_le_mul_of_nonneg_right (show 2001<=k by omega) (show 0<=g by omega)
   omega
 have o:=Int.mul_le_mul_of_nonneg_right c (show 0<=g by omega)
 have q:=Int.mul_le_mul_of_nonneg_right e (show 0<=g by omega)
 obtain⟨b,A,_⟩:=lT a (m:=k) (by omega) (by omega)
 obtain⟨Q,V⟩:∃ Q,k*g=Q:=⟨_,rfl⟩;rw [V] at b f i o q
 obtain⟨hi,G,L,_,u,v⟩:=qF a A (lS 4604418534311723008 (by decide)) (BB a) (by rw [b];omega) (by rw [b];omega)
 obtain⟨lo,M,I,_,F,C⟩:=qF a A (lS 4461442080421002358 (by decide)) (Fv a) (by rw [b];omega) (by rw [b];omega)
 rw [b] at u v F C
 obtain⟨d,U,S,_,J,W⟩:=yu a B L (by omega) (by omega)
 obtain⟨r,r0,R,l,O,N⟩:=yu a S I (by omega) (by omega)
 obtain⟨z1,Z⟩:=BC H X T Y E D f i u v F C J W O N;exact⟨y,t,hi,lo,d,r,k,P,z,w,k0,j,n,c,e,G,M,U,r0,R,l,z1,Z⟩
end Go.Proofs.YtfdddijdjpijbaaGreat
namespace Go.Proofs.YtfdddijdjpijbaaGreat
open Go.RowKit
theorem qI {a b A B:Int} (h: -A<=a) (g:a<=A) (c: -B<=b) (d:b<=B): -(A*B)<=a*b/\a*b<=A*B:=by
 have f:(a*b).natAbs<=(A*B).natAbs:=by
  rw [Int.natAbs_mul,Int.natAbs_mul];exact Nat.mul_le_mul (by omega) (by omega)
 have e:0<=A*B:=Int.mul_nonneg (by omega) (by omega)
 omega
theorem jY {K:Nat} {g:Int} (a:Scale K g) (j:Int) (c: -10<j) (b:j<10):Rep (1267650600228229401496703205376*(j*g)):=by
 have:=qE (j:=j) (E:=K) (by omega) (by omega) (by have:=a.k;omega) (by have:=a.k;omega)
 rw [a.unit,<- Int.mul_assoc,Int.mul_comm j,Int.mul_assoc] at this
 exact this
theorem yw {K:Nat} {g:Int} (c:Scale K g) {p r:Nat} (w:ag p) (j:ag r) (s: -(2535301200456458802993406410752*g)<=vI p) (u:vI p<=2535301200456458802993406410752*g) (o: -(633825300114114700748351602688*g)<=vI r) (n:vI r<=633825300114114700748351602688*g) :
  ∃ z,floatBits .mul .f64 p r=some z/\ag z/\z<18446744073709551616/\-(1267650600228229401496703205376*g)<=vI z/\vI z<=1267650600228229401496703205376*g:=by
 obtain⟨a,b⟩:=qI s u o n;have f:=jY c (-1) (by decide) (by decide)
 have h:=jY c 1 (by decide) (by decide)
 have e:(2535301200456458802993406410752*g)*(633825300114114700748351602688*g)=1267650600228229401496703205376*g*(1267650600228229401496703205376*g):=by
  rw [show (2535301200456458802993406410752:Int)*g=(1267650600228229401496703205376*g)*2 by omega,Int.mul_assoc (1267650600228229401496703205376*g),show (2:Int)*(633825300114114700748351602688*g)=1267650600228229401496703205376*g by omega]
 rw [e] at a b
 have i:1267650600228229401496703205376*(-1*g)*((2^K:Nat):Int)<=vI p*vI r:=by
  rw [c.unit,show (1267650600228229401496703205376:Int)*(-1*g)= -(1267650600228229401496703205376*g) by omega,Int.neg_mul];exact a
 have d:vI p*vI r<=1267650600228229401496703205376*(1*g)*((2^K:Nat):Int):=by
  rw [c.unit,Int.one_mul];exact b
 obtain⟨z,v,t,x,q⟩:=tN c.k w j (AT f h i d);have l:=pR f i;have m:=lw h d;rw [<- q] at l m
 exact⟨z,v,t,x,by omega,by omega⟩
theorem yx {K:Nat} {g:Int} (i:Scale K g) {q c:Nat} (k:ag q) (hc:ag c) (l:Int) (a: -10<l) (b:l<10) (t1:1267650600228229401496703205376*(l*g)<=vI q+vI c) (s:vI q+vI c<=2535301200456458802993406410752*g) :
  ∃ z,floatBits .add .f64 q c=some z/\ag z/\z<18446744073709551616/\1267650600228229401496703205376*(l*g)<=vI z/\vI z<=2535301200456458802993406410752*g:=by
 have f:=jY i l a b;have h:=jY i 2 (by decide) (by decide)
 have j:1267650600228229401496703205376*(l*g)*((2^0:Nat):Int)<=vI q+vI c:=by rw [show ((2^0:Nat):Int)=1 from rfl,Int.mul_one];exact t1
 have d:vI q+vI c<=1267650600228229401496703205376*(2*g)*((2^0:Nat):Int):=by rw [show ((2^0:Nat):Int)=1 from rfl,Int.mul_one];omega
 obtain⟨z,p,o,r,n⟩:=tL k hc (AT f h j d);have e:=pR f j;have m:=lw h d;rw [<- n] at e m
 exact⟨z,p,o,r,e,by omega⟩
theorem tO {K:Nat} {g:Int} (c:Scale K g):vI 4607182418800017408=1267650600228229401496703205376*g/\ag 4607182418800017408:=by
 obtain⟨a,b,_⟩:=lT c (m:=1) (by decide) (by decide)
 rw [Pc] at a b
 rw [Int.one_mul] at a
 exact⟨a,b⟩
theorem yz:∀ i,i<14->expL.getD i 0<=4607182418800017408:=by decide+kernel
theorem tP {K:Nat} {g:Int} (a:Scale K g) {c:Nat} (h:c<=4607182418800017408):ag c/\0<=vI c/\vI c<=1267650600228229401496703205376*g:=by
 have e:vI c=(V c:Int):=by
  rw [iq];unfold sB aV;rw [show c / 9223372036854775808 % 2=0 by omega,show c % 9223372036854775808=c by omega];rfl
 have b:vI 4607182418800017408=(V 4607182418800017408:Int):=by
  rw [iq];unfold sB aV;rfl
 have d:=El h;rw [(tO a).1] at b
 refine⟨by unfold ag;omega,by omega,by omega⟩
theorem Fx {K:Nat} {g:Int} (d:Scale K g) {r:Nat} (f:ag r) (k: -(633825300114114700748351602688*g)<=vI r) (j:vI r<=633825300114114700748351602688*g) :
  ∀ i,i<=12->∃ p,hornAt expL r i=some p/\ag p/\-(2535301200456458802993406410752*g)<=vI p/\vI p<=2535301200456458802993406410752*g:=by
 have y:=d.pos;intro i
 induction i with
 | zero=>
  intro _;obtain⟨a,b,c⟩:=tP d (yz 13 (by omega))
  exact⟨expL.getD 13 0,rfl,a,by omega,by omega⟩
 | succ i l=>
  intro hi;obtain⟨p,e,v,o,u⟩:=l (by omega)
  obtain⟨q,t,h,_,w,x⟩:=yw d v f o u k j;obtain⟨a,b,c⟩:=tP d (yz (14 - 2 - i) (by omega))
  obtain⟨z,n,m,_,A,s⟩:=yx d h a (-1) (by decide) (by decide) (by omega) (by omega)
  refine⟨z,?_,m,by omega,s⟩
  show gj r (hornAt expL r i) (expL.getD (14 - 2 - i) 0)=some z
  rw [e]
  show ((some p).bind fun p=>floatBits .mul .f64 p r).bind _=_
  rw [show ((some p).bind fun p=>floatBits .mul .f64 p r)=some q from t]
  exact n
theorem JC {K:Nat} {g:Int} (a:Scale K g) {r:Nat} (c:ag r) (h: -(633825300114114700748351602688*g)<=vI r) (f:vI r<=633825300114114700748351602688*g) :
  ∃ p,bj expL r=some p/\ag p/\p<18446744073709551616/\0<=vI p:=by
 have v:=a.pos;obtain⟨p,e,s,m,o⟩:=Fx a c h f 12 (by omega)
 obtain⟨q,n,j,_,t,u⟩:=yw a s c m o h f;obtain⟨d,i⟩:=tO a;obtain⟨z,l,k,b,w,_⟩:=yx a j i 0 (by decide) (by decide) (by rw [d];omega) (by rw [d];omega)
 refine⟨z,?_,k,b,by omega⟩
 show gj r (hornAt expL r 12) 4607182418800017408=some z
 rw [e]
 show ((some p).bind fun p=>floatBits .mul .f64 p r).bind _=_
 rw [show ((some p).bind fun p=>floatBits .mul .f64 p r)=some q from n]
 exact l
theorem PA {p:Nat} (hn:ag p) (k:p<18446744073709551616) (d:0<=vI p):0<=az p/\az p<9007199254740992/\-2000<=aP p/\aP p<=2000:=by
 have a:szI (p:Int)=((p % 9223372036854775808:Nat):Int):=by unfold szI;omega
 have e:ay (p:Int)=true:=by unfold ay;rw [a];unfold ag at hn;simp;omega
 have c: -2000<=aP p/\aP p<=2000:=by
  unfold aP kE;rw [a];unfold ag at hn
  split
  ·split<;>omega
  ·omega
 unfold az;rw [e,if_pos rfl,a];obtain⟨r,i⟩:∃ r,p % 9223372036854775808=r:=⟨_,rfl⟩;have g:0<=gz (r:Int)/\gz (r:Int)<9007199254740992:=by unfold gz;split<;>omega
 have j:sgB (p:Int)=true->r=0:=fun h=>by
  have l:sB p=true:=by
   unfold sgB at h
   unfold sB;have:9223372036854775808<=p:=by have:=of_decide_eq_true h;omega
   rw [show p / 9223372036854775808 % 2=1 by omega];rfl
  rw [iq,l] at d
  have f:aV p=0:=by unfold sgZ at d;simp at d;omega
  unfold aV at f
  rw [i] at f
  have:=fD (r:=r) (s:=0);rw [bp] at this
  exact this.1 f
 rw [i]
 by_cases b:sgB (p:Int)=true
 ·rw [if_pos b,j b];refine⟨by decide,by decide,c.1,c.2⟩
 ·rw [if_neg b];exact⟨g.1,g.2,c.1,c.2⟩
theorem JD {m e:Int} (h:0<=m):aI m e<=9218868437227405312:=by
 unfold aI
 split
 ·omega
 ·rw [if_neg (by omega)];exact jh _ _
theorem Fy:∀ a:Nat,a<64->∀ b:Nat,b<64->floatToIntVal .f64 (fi (((64*a+b:Nat):Int) - 2000)) .i64=some (((64*a+b:Nat):Int) - 2000):=by decide+kernel
theorem JE {k:Int} (b: -2000<=k) (a:k<=2000):floatToIntVal .f64 (fi k) .i64=some k:=by
 have:=Fy ((k+2000).toNat / 64) (by omega) ((k+2000).toNat % 64) (by omega)
 rw [show ((64*((k+2000).toNat / 64)+(k+2000).toNat % 64:Nat):Int) - 2000=k by omega] at this
 exact this
theorem Nh {m:Int} (b:0<=m) (a:m<9007199254740992): -9223372036854775808<=m/\m<=9223372036854775807:=by omega
theorem qJ {a b:Nat} (m:ag a) (g:ag b) (d:a<18446744073709551616) (c:b<18446744073709551616) (h:ae a<ae b):vI a<vI b:=by
 have j:ah (a:Int)=false:=by unfold ag at m;unfold ah szI;rw [decide_eq_false_iff_not];omega
 have l:ah (b:Int)=false:=by unfold ag at g;unfold ah szI;rw [decide_eq_false_iff_not];omega
 rw [<- cb d j,<- cb c l] at h
 have k:vI a=sgZ (a / 9223372036854775808 % 2==1) (V (a % 9223372036854775808)):=rfl;have f:vI b=sgZ (b / 9223372036854775808 % 2==1) (V (b % 9223372036854775808)):=rfl;rw [k,f];generalize a % 9223372036854775808=r at *
 generalize b % 9223372036854775808=s at *
 generalize (a / 9223372036854775808 % 2==1)=p at *
 generalize (b / 9223372036854775808 % 2==1)=q at *
 have o:=cN (r:=r) (s:=s);have n:=cN (r:=s) (s:=r);have i:=cN (r:=0) (s:=s);have e:=cN (r:=0) (s:=r);rw [bp] at i e
 unfold sgn at h
 unfold sgZ;cases p<;>cases q<;>simp only [Bool.false_eq_true,if_true,if_false] at* <;>omega
theorem Ni:fi 710=4649456441864749056:=by decide+kernel
theorem PB:fi (-746)=13873145138068324352:=by decide+kernel
theorem Nm (w:World) :
  Calls Tryz.prog 80 #[.int .i64 (-1)] w fun e a=>e=.returned (.float .f64 18442240474082181120)/\a=w:=by
 have b:=cg
 go_enter Tryz.func80,Tryz.ntmps80
 go_wp2
 go_ret
 exact⟨rfl,rfl⟩
theorem yB (w:World) :
  Calls Tryz.prog 132 #[] w fun e a=>e=.returned (.float .f64 9221120237041090561)/\a=w:=by
 have b:=cg
 go_enter Tryz.func132,Tryz.ntmps132
 go_wp2
 go_ret
 exact⟨rfl,rfl⟩
theorem nh (x:Nat) (g:Bool) (w:World) (b:(FloatKind.f64.format.order x 9218868437227405311==some .gt)=g) :
  Calls Tryz.prog 71 #[.float .f64 x,.int .i64 1] w fun e a=>e=.returned (.bool g)/\a=w:=by
 go_enter Tryz.func71,Tryz.ntmps71
 go_wp2
 go_ret
 exact⟨rfl,rfl⟩
theorem FC (x b c:Nat) (n e L:Int) (h g:Bool) (w:World) (f:Hid (∀ w,Calls Tryz.prog 85 #[.float .f64 x] w fun r a=>r=.returned (.tuple #[.int .i64 n,.int .i64 e,.bool h])/\a=w))
  (hn:0<n/\n<9007199254740992) (l: -2000<=e/\e<=2000) (k:Hid (∀ w,Calls Tryz.prog 233 #[.int .u64 n] w fun r a=>r=.returned (.int .i64 L)/\a=w)) (i:0<=L/\L<=64)
  (j:Hid (∀ w,Calls Tryz.prog 86 #[.int .i64 n,.int .i64 (1 - L)] w fun r a=>r=.returned (.float .f64 b)/\∃ q,a=w.drewN q))
  (o:(FloatKind.f64.format.order b 4609047870845172685==some .gt)=g) (d:floatBits .quo .f64 b 4611686018427387904=some c) :
  Calls Tryz.prog 229 #[.float .f64 x] w fun r a=>r=.returned (.tuple #[.float .f64 (if g then c else b),.int .i64 (if g then e+L else e+L - 1)])/\∃ q,a=w.drewN q:=by
 have m:=fun w=>run_float_arith (P:=Tryz.prog) w .quo 27 .f64 _ _ _ d
 clear d;cases g
 all_goals
  simp only [Bool.false_eq_true,if_true,if_false]
  go_enter Tryz.func229,Tryz.ntmps229
  go_wp2_with fail
  refine (turned (f.out _)).mono ?_
  rintro r a ⟨rfl,rfl⟩
  go_wp2_with fail
  refine (turned (k.out _)).mono ?_
  rintro r a ⟨rfl,rfl⟩
  go_wp2_with fail
  refine (j.out _).mono ?_
  rintro r a ⟨rfl,q,rfl⟩
  go_wp2_with fail
  go_ret2
  exact⟨rfl,_,rfl⟩
theorem PC (x:Nat) (w:World) (h:U64 x) (hn:ah x=true) :
  Calls Tryz.prog 223 #[.float .f64 x] w fun e a=>e=.returned (.float .f64 9221120237041090561)/\a=w:=by
 have H:=hideS (aZ x w h);rw [hn] at H
 clear h hn
 go_enter Tryz.func223,Tryz.ntmps223
 go_wp2_with fail
 refine H.out.mono ?_
 rintro e a ⟨rfl,rfl⟩
 go_wp2_with fail
 refine (yB _).mono ?_
 rintro e a ⟨rfl,rfl⟩
 go_wp2_with fail
 go_ret
 exact⟨rfl,rfl⟩
theorem PD (x:Nat) (w:World) (h:U64 x) (hn:ah x=false) (b:(FloatKind.f64.format.order x 0==some .lt)=true) :
  Calls Tryz.prog 223 #[.float .f64 x] w fun e a=>e=.returned (.float .f64 9221120237041090561)/\a=w:=by
 have H:=hideS (aZ x w h);rw [hn] at H
 clear h hn
 go_enter Tryz.func223,Tryz.ntmps223
 go_wp2_with fail
 refine H.out.mono ?_
 rintro e a ⟨rfl,rfl⟩
 go_wp2_with fail
 refine (yB _).mono ?_
 rintro e a ⟨rfl,rfl⟩
 go_wp2_with fail
 go_ret
 exact⟨rfl,rfl⟩
theorem Nn (x:Nat) (w:World) (h:U64 x) (hn:ah x=false) (b:(FloatKind.f64.format.order x 0==some .lt)=false) (c:(FloatKind.f64.format.order x 0==some .eq)=true) :
  Calls Tryz.prog 223 #[.float .f64 x] w fun e a=>e=.returned (.float .f64 18442240474082181120)/\a=w:=by
 have H:=hideS (aZ x w h);rw [hn] at H
 clear h hn
 go_enter Tryz.func223,Tryz.ntmps223
 go_wp2_with fail
 refine H.out.mono ?_
 rintro e a ⟨rfl,rfl⟩
 go_wp2_with fail
 refine (Nm _).mono ?_
 rintro e a ⟨rfl,rfl⟩
 go_wp2_with fail
 go_ret
 exact⟨rfl,rfl⟩
theorem PE (x:Nat) (w:World) (h:U64 x) (hn:ah x=false) (c:(FloatKind.f64.format.order x 0==some .lt)=false) (d:(FloatKind.f64.format.order x 0==some .eq)=false) (hi:(FloatKind.f64.format.order x 9218868437227405311==some .gt)=true) :
  Calls Tryz.prog 223 #[.float .f64 x] w fun e a=>e=.returned (.float .f64 x)/\a=w:=by
 have H:=hideS (aZ x w h);rw [hn] at H
 have b:=hideS (nh x true w hi);clear h hn hi
 go_enter Tryz.func223,Tryz.ntmps223
 go_wp2_with fail
 refine H.out.mono ?_
 rintro e a ⟨rfl,rfl⟩
 go_wp2_with fail
 refine b.out.mono ?_
 rintro e a ⟨rfl,rfl⟩
 go_wp2_with fail
 go_ret
 exact⟨rfl,rfl⟩
theorem qK (b:Nat) (h:decide (b % 9223372036854775808<9218868437227405312)=true):ag b:=by unfold ag;exact of_decide_eq_true h
theorem qL (w:World):Calls Tryz.prog 81 #[.float .f64 4602678819172646912] w fun e a=>e=.returned (.float .f64 0)/\a=w:=
 lN _ 0 w (qK _ (by decide)) (by decide+kernel)
theorem Rn (w:World):Calls Tryz.prog 54 #[.float .f64 0] w fun e a=>e=.returned (.float .f64 4607182418800017408)/\Below w.heap.size w a:=by
 have:=lQ 0 0 4602678819172646912 0 0 0 0 0 4607182418800017408 0 w (by unfold U64;omega) (by decide) (by decide) (by decide) (by decide) (by decide) (by decide+kernel) (by decide+kernel) qL (by decide+kernel) (by decide+kernel) (by decide+kernel) (by decide+kernel) (by show _=_;decide+kernel) (by show U64 _;unfold U64;omega) (by decide+kernel) (by omega) (by decide+kernel) (by decide+kernel)
 rw [show aI (az (4607182418800017408:Nat)) (aP (4607182418800017408:Nat)+0)=4607182418800017408 by decide+kernel] at this
 exact this
def dA (base:Int) (a:List Int):Nat->Int
 | 0=>base
 | k+1=>a.getD k 0
def kR (base:Int) (a:List Int) (b:List Nat) (i:Nat):Bool:=decide (a.getD i 0<=dA base a i)||decide (109572<a.getD i 0)||!aE (b.getD i 0:Nat)||!ltB 0 (b.getD i 0:Nat)
structure OkV (base kind:Int) (ds:List Int) (fs:List Nat):Prop where
 b0:0<=base
 b1:base<=109572
 k1:1<=kind
 k4:kind<=4
 lo:1<=ds.length
 hi:ds.length<=255
 len:fs.length=ds.length
 node:∀ i<ds.length,kR base ds fs i=false
inductive CurR (base kind:Int) (ds:List Int) (fs:List Nat):Int->Prop
 | ok (h:OkV base kind ds fs):CurR base kind ds fs 0
 | base (h:base<0\/109572<base):CurR base kind ds fs 51
 | kind (b0:0<=base) (b1:base<=109572) (h:kind<1\/4<kind):CurR base kind ds fs 90
 | len (b0:0<=base) (b1:base<=109572) (h1:1<=kind) (h4:kind<=4) (h:ds.length<1\/255<ds.length\/fs.length≠ds.length):CurR base kind ds fs 100
 | node (b0:0<=base) (b1:base<=109572) (h1:1<=kind) (h4:kind<=4) (lo:1<=ds.length) (hi:ds.length<=255) (len:fs.length=ds.length) (K:Nat) (hK:K<ds.length) (bad:kR base ds fs K=true) (fine:∀ i<K,kR base ds fs i=false):CurR base kind ds fs 100
theorem oX (base kind:Int) (a:List Int) (c:List Nat):∃ E,CurR base kind a c E:=by
 by_cases b:base<0\/109572<base
 ·exact⟨51,.base b⟩
 ·by_cases f:kind<1\/4<kind
  ·exact⟨90,.kind (by omega) (by omega) f⟩
  ·by_cases d:a.length<1\/255<a.length\/c.length≠a.length
   ·exact⟨100,.len (by omega) (by omega) (by omega) (by omega) d⟩
   ·by_cases b:∃ i<a.length,kR base a c i=true
    ·obtain⟨K,g,j,h⟩:=eZ _ b;exact⟨100,.node (by omega) (by omega) (by omega) (by omega) (by omega) (by omega) (by omega) K g j h⟩
    ·exact⟨0,.ok ⟨by omega,by omega,by omega,by omega,by omega,by omega,by omega,fun i hi=>by
      cases e:kR base a c i
      ·rfl
      ·exact absurd ⟨i,hi,e⟩ b⟩⟩
theorem ka {base kind:Int} {b:List Int} {c:List Nat} (h:CurR base kind b c 0):OkV base kind b c:=by
 generalize a:(0:Int)=E at h
 cases h with
 | ok h=>exact h
 | base h=>cases a
 | kind=>cases a
 | len=>cases a
 | node=>cases a
theorem co {base:Int} {e:List Int} {f:List Nat} {i:Nat} (h:kR base e f i=false):dA base e i<e.getD i 0/\e.getD i 0<=109572/\aE (f.getD i 0:Nat)=true/\ltB 0 (f.getD i 0:Nat)=true:=by
 unfold kR at h
 simp only [Bool.or_eq_false_iff,decide_eq_false_iff_not,Bool.not_eq_false'] at h
 obtain⟨⟨⟨a,b⟩,c⟩,d⟩:=h;exact⟨by omega,by omega,c,d⟩
def ctX (base:Int) (a:List Int):List Int:=base::a
def ctY (a:List Nat):List Nat:=4607182418800017408::a
theorem BW (base:Int) (a:List Int) (i:Nat):(ctX base a).getD i 0=dA base a i:=by
 cases i<;>rfl
theorem OkV.pos {base kind:Int} {a:List Int} {b:List Nat} (h:OkV base kind a b):∀ i≤a.length,0<=dA base a i
 | 0,_=>h.b0
 | i+1,hi=>by
  have:=co (h.node i (by omega))
  have:=OkV.pos h i (by omega)
  show 0<=a.getD i 0
  omega
theorem OkV.top {base kind:Int} {a:List Int} {b:List Nat} (h:OkV base kind a b):∀ i≤a.length,dA base a i<=109572
 | 0,_=>h.b1
 | i+1,hi=>(co (h.node i (by omega))).2.1
theorem OkV.table {base kind:Int} {e:List Int} {g:List Nat} (h:OkV base kind e g):OkT kind (ctX base e) (ctY g):=by
 refine⟨h.k1,h.k4,by simp [ctX],by have:=h.hi;simp [ctX];omega,by simp [ctX,ctY,h.len],fun i hi=>?_⟩
 have f:i<=e.length:=by have:i<e.length+1:=hi;omega
 have p:=h.pos i f;have t:=h.top i f;unfold eO;rw [BW,decide_eq_false (show ¬ dA base e i<0 by omega),decide_eq_false (show ¬ 109572<dA base e i by omega)]
 cases i with
 | zero=>
  show (false||false||(decide (0<0)&&_)||!aE (4607182418800017408:Nat)||(decide (kind=4)&&!ltB 0 (4607182418800017408:Nat)))=false
  rw [show aE (4607182418800017408:Nat)=true by decide,show ltB 0 (4607182418800017408:Nat)=true by decide];simp
 | succ i=>
  obtain⟨a,b,c,d⟩:=co (h.node i (by omega))
  have j:(ctX base e).getD (i+1 - 1) 0=dA base e i:=by rw [Nat.add_sub_cancel,BW]
  have k:(ctY g).getD (i+1) 0=g.getD i 0:=rfl;have l:dA base e (i+1)=e.getD i 0:=rfl;rw [j,k,l,c,d,decide_eq_false (show ¬ e.getD i 0<=dA base e i by omega)];simp
def prvF (a:List Nat):Nat->Nat
 | 0=>4607182418800017408
 | k+1=>a.getD k 0
def nV (a:List Nat):Bool:=(List.range a.length).all fun i=>!ltB (prvF a i:Nat) (a.getD i 0:Nat)
inductive FallR (fs:List Nat):Bool->Prop
 | yes (h:∀ i<fs.length,ltB (prvF fs i:Nat) (fs.getD i 0:Nat)=false):FallR fs true
 | no (K:Nat) (hK:K<fs.length) (bad:ltB (prvF fs K:Nat) (fs.getD K 0:Nat)=true) (fine:∀ i<K,ltB (prvF fs i:Nat) (fs.getD i 0:Nat)=false):FallR fs false
theorem Kr (a:List Nat):FallR a (nV a):=by
 by_cases b:∃ i<a.length,ltB (prvF a i:Nat) (a.getD i 0:Nat)=true
 ·obtain⟨K,d,e,g⟩:=eZ _ b;have:nV a=false:=by
   unfold nV;rw [List.all_eq_false];exact⟨K,List.mem_range.2 d,by rw [e];decide⟩
  rw [this];exact .no K d e g
 ·have c:∀ i<a.length,ltB (prvF a i:Nat) (a.getD i 0:Nat)=false:=fun i hi=>by
   cases f:ltB (prvF a i:Nat) (a.getD i 0:Nat)
   ·rfl
   ·exact absurd ⟨i,hi,f⟩ b
  have:nV a=true:=by
   unfold nV;rw [List.all_eq_true];intro i hi;rw [c i (List.mem_range.1 hi)];rfl
  rw [this];exact .yes c
end Go.Proofs.YtfdddijdjpijbaaGreat
