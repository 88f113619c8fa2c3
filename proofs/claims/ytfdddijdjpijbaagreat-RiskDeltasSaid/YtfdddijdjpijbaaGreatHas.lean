/-  -/
import Derived.Test.YtfdddijdjpijbaaGreatHar
import Derived.Test.YtfdddijdjpijbaaGreatFlt
import Derived.Test.YtfdddijdjpijbaaGreatHaq
import Derived.Test.YtfdddijdjpijbaaGreatHae
set_option maxHeartbeats 1600000
set_option maxRecDepth 20000
namespace Go.Proofs.YtfdddijdjpijbaaGreat
open Go.RowKit
theorem iL {b:Nat} (h:b<9218868437227405312):U64 (b:Int)/\ah (b:Int)=false/\ae (b:Int)=b:=by
 have c:szI (b:Int)=b:=by unfold szI;omega
 have a:ah (b:Int)=false:=by unfold ah;rw [c];simp;omega
 have d:sgB (b:Int)=false:=by simp [sgB];omega
 exact⟨by unfold U64;omega,a,by rw [rank_pos a d,c]⟩
theorem Jw (neg:Bool) (n a:Nat):Ieee.Toward.down.cut neg n a=n / 2^a+(if neg=true/\n % 2^a≠0 then 1 else 0):=by
 show n / (1 <<< min a (n.log2+2))+(neg&&n % (1 <<< min a (n.log2+2)) !=0).toNat=_
 rw [Nat.one_shiftLeft];have b:n / 2^min a (n.log2+2)=n / 2^a/\n % 2^min a (n.log2+2)=n % 2^a:=by
  by_cases h:a<=n.log2+2
  ·rw [Nat.min_eq_left h];exact⟨rfl,rfl⟩
  ·rw [Nat.min_eq_right (by omega)]
   have d:n<2^(n.log2+1):=Nat.lt_log2_self;have f:(2:Nat)^(n.log2+1)<=2^(n.log2+2):=Nat.pow_le_pow_right (by decide) (by omega)
   have e:(2:Nat)^(n.log2+2)<=2^a:=Nat.pow_le_pow_right (by decide) (by omega)
   rw [Nat.div_eq_of_lt (by omega),Nat.div_eq_of_lt (by omega),Nat.mod_eq_of_lt (by omega),Nat.mod_eq_of_lt (by omega)]
   exact⟨rfl,rfl⟩
 rw [b.1,b.2]
 congr 1
 cases neg
 ·rfl
 ·by_cases c:n % 2^a=0
  ·rw [c];rfl
  ·rw [if_pos ⟨rfl,c⟩];simp [c]
theorem Fs (m p K:Nat):(m <<< (-(K:Int)+(p:Int)).toNat) / 2^(-(-(K:Int)+(p:Int))).toNat=m*2^p / 2^K/\((m <<< (-(K:Int)+(p:Int)).toNat) % 2^(-(-(K:Int)+(p:Int))).toNat=0↔m*2^p % 2^K=0):=by
 rw [Nat.shiftLeft_eq]
 by_cases h:p<=K
 ·have d:(-(K:Int)+(p:Int)).toNat=0:=by omega
  have c:(-(-(K:Int)+(p:Int))).toNat=K - p:=by omega
  have b:(2:Nat)^K=2^(K - p)*2^p:=by rw [<- Nat.pow_add,show K - p+p=K by omega]
  have a:=Nat.two_pow_pos p;rw [d,c,b,Nat.pow_zero,Nat.mul_one,Nat.mul_div_mul_right _ _ a,Nat.mul_mod_mul_right];refine⟨rfl,?_⟩
  constructor
  ·intro h;rw [h,Nat.zero_mul]
  ·intro h;rcases Nat.mul_eq_zero.1 h with h | h
   ·exact h
   ·omega
 ·have d:(-(K:Int)+(p:Int)).toNat=p - K:=by omega
  have c:(-(-(K:Int)+(p:Int))).toNat=0:=by omega
  have b:(2:Nat)^p=2^(p - K)*2^K:=by rw [<- Nat.pow_add,show p - K+K=p by omega]
  have a:=Nat.two_pow_pos K;rw [d,c,b,Nat.pow_zero,Nat.div_one,Nat.mod_one,<- Nat.mul_assoc,Nat.mul_div_cancel _ a,Nat.mul_mod_left];exact⟨rfl,Iff.rfl⟩
theorem Bw {b K:Nat} (C:K=1074) (h:ag b) (v:b % 9223372036854775808≠0\/sB b=false) :
  ∃ k:Int,Ieee.double.write ((Ieee.double.read b).integral .down)=fi k/\k*((2^K:Nat):Int)<=vI b/\vI b<(k+1)*((2^K:Nat):Int):=by
 rw [ax h];have a:=tp b;have x:(b / 9223372036854775808 % 2==1)=sB b:=rfl;have i:b % 9223372036854775808≠0->mg (b % 9223372036854775808)≠0:=fun h=>by unfold mg;split<;>omega
 rw [x] at a ⊢
 generalize b % 9223372036854775808=r at *
 generalize B:mg r=m at *
 generalize pl r=p at *
 have l:=Nat.two_pow_pos K;have y:=Nat.two_pow_pos p;obtain⟨c1,c2⟩:=Fs m p K;have f:∀ s,Ieee.double.write ((Ieee.Datum.number s m (-1074+(p:Int))).integral .down)=Ieee.double.nearest s (m*2^p / 2^K+(if s=true/\m*2^p % 2^K≠0 then 1 else 0)) 0:=fun s=>by
  show Ieee.double.nearest s (Ieee.Toward.down.cut s (m <<< (-1074+(p:Int)).toNat) (-(-1074+(p:Int))).toNat) 0=_
  have e:(-1074+(p:Int))= -(K:Int)+(p:Int):=by omega
  rw [Jw,e,c1]
  congr 2
  simp only [ne_eq,c2]
 rw [f];obtain⟨A,o⟩:∃ A,m*2^p=A:=⟨_,rfl⟩;obtain⟨P,j⟩:∃ P,2^K=P:=⟨_,rfl⟩;rw [o] at a ⊢
 rw [j] at l ⊢
 have z:=Nat.div_add_mod A P;have u:=Nat.mod_lt A l;generalize A / P=q at *
 generalize A % P=t at *
 clear f c1 c2;cases c:sB b with
 | false=>
  rw [c] at a
  refine⟨(q:Nat),?_,?_,?_⟩
  ·rw [if_neg (by simp),Nat.add_zero]
   unfold fi aI
   by_cases d:q=0
   ·rw [d,cG];rfl
   ·rw [bV _ d,im,if_neg (by omega),if_neg (by omega),Int.natAbs_natCast]
  ·rw [a];show ((q:Nat):Int)*(P:Int)<=(A:Int)
   rw [<- Int.natCast_mul,Nat.mul_comm];omega
  ·rw [a];show (A:Int)<(((q:Nat):Int)+1)*(P:Int)
   rw [Int.add_mul,<- Int.natCast_mul,Nat.mul_comm];omega
 | true=>
  rw [c] at a
  have g:r≠0:=by
   rcases v with h | h
   ·exact h
   ·rw [c] at h;cases h
  have w:A≠0:=by rw [<- o];exact Nat.mul_ne_zero (i g) (by omega)
  by_cases n:t=0
  ·refine⟨-((q:Nat):Int),?_,?_,?_⟩
   ·rw [if_neg (by simp [n]),Nat.add_zero]
    have d:q≠0:=by
     intro d;rw [d,Nat.mul_zero] at z;omega
    unfold fi aI;rw [bV _ d,gM,if_neg (by omega),if_pos (by omega),Int.natAbs_neg,Int.natAbs_natCast]
   ·rw [a];show -((q:Nat):Int)*(P:Int)<=-(A:Int)
    rw [Int.neg_mul,<- Int.natCast_mul,Nat.mul_comm];omega
   ·rw [a];show -(A:Int)<(-((q:Nat):Int)+1)*(P:Int)
    rw [Int.add_mul,Int.neg_mul,<- Int.natCast_mul,Nat.mul_comm];omega
  ·refine⟨-((q+1:Nat):Int),?_,?_,?_⟩
   ·rw [if_pos ⟨rfl,n⟩];unfold fi aI;rw [bV _ (by omega),gM,if_neg (by omega),if_pos (by omega),Int.natAbs_neg,Int.natAbs_natCast]
   ·rw [a];show -((q+1:Nat):Int)*(P:Int)<=-(A:Int)
    rw [Int.neg_mul,<- Int.natCast_mul,Nat.add_mul,Nat.mul_comm (q)];omega
   ·rw [a];show -(A:Int)<(-((q+1:Nat):Int)+1)*(P:Int)
    rw [Int.add_mul,Int.neg_mul,<- Int.natCast_mul,Nat.add_mul,Nat.mul_comm (q)];omega
theorem qB (b:Nat) (s:Bool) (m:Nat) (i:Int) (a:FloatKind.f64.decode b=.number s m i):Extern.MathFloor.toIntegral "math.archFloor" .down #[.float .f64 b]=pure (.float .f64 (FloatKind.f64.encode ((Ieee.Datum.number s m i).integral .down))):=by
 conv=>lhs;whnf
 rw [a]
theorem qC (b:Nat) (h:ag b) (w:World):(callFunc 119 #[.float .f64 b]).run Tryz.prog w=.ok (.value (.float .f64 (Ieee.double.write ((Ieee.double.read b).integral .down)))) w:=by
 refine (run_callFunc_extern (e:=Extern.MathFloor.toIntegral "math.archFloor" .down) Tryz.func119 (by kernel_rfl) (by kernel_rfl) (by kernel_rfl) (by kernel_rfl) _ w).trans ?_
 have e:FloatKind.f64.decode b=_:=ax h;rw [qB b _ _ _ e,ax h]
 rfl
theorem lN (b f:Nat) (w:World) (h:ag b) (a:Ieee.double.write ((Ieee.double.read b).integral .down)=f) :
  Calls Tryz.prog 81 #[.float .f64 b] w fun e c=>e=.returned (.float .f64 f)/\c=w:=by
 have d:=qC b h;rw [a] at d
 clear a h
 go_enter Tryz.func81,Tryz.ntmps81
 go_wp2
 go_ret
 exact⟨rfl,rfl⟩
end Go.Proofs.YtfdddijdjpijbaaGreat
namespace Go.Proofs.YtfdddijdjpijbaaGreat
theorem vR {s:Bool} {r:Nat} (h:r<9218868437227405312):vI (wrd s r)=sgZ s (V r)/\ag (wrd s r)/\wrd s r<18446744073709551616/\sB (wrd s r)=s:=by
 cases s
 ·have e:wrd false r=r:=rfl;rw [e];refine⟨?_,?_,by omega,?_⟩
  ·rw [iq];unfold sB aV;rw [show r / 9223372036854775808 % 2=0 by omega,show r % 9223372036854775808=r by omega];rfl
  ·unfold ag;omega
  ·unfold sB;rw [show r / 9223372036854775808 % 2=0 by omega];rfl
 ·have e:wrd true r=9223372036854775808+r:=rfl;rw [e];refine⟨?_,?_,by omega,?_⟩
  ·rw [iq];unfold sB aV;rw [show (9223372036854775808+r) / 9223372036854775808 % 2=1 by omega,show (9223372036854775808+r) % 9223372036854775808=r by omega];rfl
  ·unfold ag;omega
  ·unfold sB;rw [show (9223372036854775808+r) / 9223372036854775808 % 2=1 by omega];rfl
theorem mX {T e:Int} (h:T≠0):aI T e=wrd (decide (T<0)) (nearR T.natAbs e):=by
 unfold aI wrd;rw [if_neg h]
 by_cases a:T<0
 ·rw [if_pos a,if_pos (by simpa using a)]
 ·rw [if_neg a,if_neg (by simpa using a)]
theorem Bz {k:Nat} {T:Int}:sgZ (decide (T<0)) (V (nearR T.natAbs (-1074 - (k:Int))))=rI k T:=by
 unfold sgZ rI
 by_cases a:T<0
 ·rw [if_pos (by simpa using a),if_pos a]
 ·rw [if_neg (by simpa using a),if_neg a]
theorem vS (k:Nat):rI k 0=0:=by
 unfold rI;rw [if_neg (by decide),Int.natAbs_zero,ip (by omega),bp];rfl
theorem tL {x y:Nat} (h:ag x) (g:ag y) (f:AS 0 (vI x+vI y)):∃ z,floatBits .add .f64 x y=some z/\ag z/\z<18446744073709551616/\vI z=rI 0 (vI x+vI y):=by
 refine⟨_,lv h g,?_⟩
 unfold jc;generalize vI x+vI y=T at *
 by_cases d:T=0
 ·rw [if_pos d,d,vS]
  split
  ·exact⟨by unfold ag;decide,by decide,by decide⟩
  ·exact⟨by unfold ag;decide,by decide,by decide⟩
 ·rw [if_neg d,mX d];have e:nearR T.natAbs (-1074)<9218868437227405312:=f;obtain⟨a,b,c,_⟩:=vR (s:=decide (T<0)) e;refine⟨b,c,?_⟩
  rw [a];exact Bz (k:=0)
theorem Fu {x y:Nat} (h:ag x) (g:ag y) (f:AS 0 (vI x - vI y)):∃ z,floatBits .sub .f64 x y=some z/\ag z/\z<18446744073709551616/\vI z=rI 0 (vI x - vI y):=by
 refine⟨_,oR h g,?_⟩
 unfold jc;generalize vI x - vI y=T at *
 by_cases d:T=0
 ·rw [if_pos d,d,vS]
  split
  ·exact⟨by unfold ag;decide,by decide,by decide⟩
  ·exact⟨by unfold ag;decide,by decide,by decide⟩
 ·rw [if_neg d,mX d];have e:nearR T.natAbs (-1074)<9218868437227405312:=f;obtain⟨a,b,c,_⟩:=vR (s:=decide (T<0)) e;refine⟨b,c,?_⟩
  rw [a];exact Bz (k:=0)
theorem tM (x:Nat):(vI x).natAbs=aV x:=by rw [iq];unfold sgZ;cases sB x<;>simp
theorem qD {x:Nat} (h:vI x≠0):decide (vI x<0)=sB x:=by
 rw [iq] at h ⊢
 unfold sgZ at *
 cases sB x
 ·simp
 ·simp only [if_true] at *;simp;omega
theorem Jx {a b:Int} (f:a≠0) (e:b≠0):(decide (a<0)^^decide (b<0))=decide (a*b<0):=by
 rcases Int.lt_or_lt_of_ne f with c | c<;>rcases Int.lt_or_lt_of_ne e with d | d
 ·have:=Int.mul_pos_of_neg_of_neg c d;simp [c,d];omega
 ·have:=Int.mul_neg_of_neg_of_pos c d;simp [c,this];omega
 ·have:=Int.mul_neg_of_pos_of_neg c d;simp [d,this];omega
 ·have:=Int.mul_pos c d;rw [decide_eq_false (show ¬ a<0 by omega),decide_eq_false (show ¬ b<0 by omega),decide_eq_false (show ¬ a*b<0 by omega)];rfl
theorem tN {x y K:Nat} (l:K=1074) (j:ag x) (i:ag y) (f:AS K (vI x*vI y)):∃ z,floatBits .mul .f64 x y=some z/\ag z/\z<18446744073709551616/\vI z=rI K (vI x*vI y):=by
 refine⟨_,gg j i,?_⟩
 unfold mulR;rw [<- tM,<- tM,<- Int.natAbs_mul]
 by_cases g:vI x*vI y=0
 ·rw [g,Int.natAbs_zero,if_pos rfl,vS];obtain⟨a,b,c,_⟩:=vR (s:=sB x^^sB y) (r:=0) (by decide)
  refine⟨b,c,?_⟩
  rw [a,bp];unfold sgZ;split<;>rfl
 ·have d:vI x≠0:=fun h=>g (by rw [h,Int.zero_mul])
  have e:vI y≠0:=fun h=>g (by rw [h,Int.mul_zero])
  rw [if_neg (by omega),<- qD d,<- qD e,Jx d e]
  unfold AS at f
  rw [show (-1074 - (K:Int))= -2148 by omega] at f
  obtain⟨a,b,c,_⟩:=vR (s:=decide (vI x*vI y<0)) f;refine⟨b,c,?_⟩
  rw [a];have:=Bz (k:=K) (T:=vI x*vI y);rw [show (-1074 - (K:Int))= -2148 by omega] at this
  exact this
theorem Jy {q k:Nat} (a:4503599627370496<=k) (b:k<9007199254740992):mg (q*4503599627370496+k)=k/\pl (q*4503599627370496+k)=q:=by
 unfold mg pl;rw [if_neg (by omega)]
 omega
theorem Jz {m E:Nat} (h:m<9007199254740992) (o:52<=E) (i:E<=1900):Rep ((m*2^E:Nat):Int):=by
 by_cases c:m=0
 ·subst c;rw [Nat.zero_mul];exact Iw
 have a:=Nat.log2_self_le c;have b:m<2^(m.log2+1):=Nat.lt_log2_self;have g:m.log2<53:=(Nat.log2_lt c).2 (by omega)
 generalize m.log2=l at a b g
 obtain⟨k,f⟩:∃ k,m*2^(52 - l)=k:=⟨_,rfl⟩;have e:4503599627370496<=k:=by
  have:=Nat.mul_le_mul_right (2^(52 - l)) a;rw [<- Nat.pow_add,show l+(52 - l)=52 by omega,f] at this;exact this
 have d:k<9007199254740992:=by
  have:=Nat.mul_lt_mul_of_pos_right b (Nat.two_pow_pos (52 - l));rw [<- Nat.pow_add,show l+1+(52 - l)=53 by omega,f] at this;exact this
 obtain⟨n,j⟩:=Jy (q:=E+l - 52) e d;refine⟨(E+l - 52)*4503599627370496+k,by omega,?_⟩
 unfold V;rw [n,j,Int.natAbs_natCast,<- f,Nat.mul_assoc,<- Nat.pow_add,show 52 - l+(E+l - 52)=E by omega]
theorem qE {j:Int} {E:Nat} (f: -9007199254740992<j) (d:j<9007199254740992) (b:52<=E) (a:E<=1900):Rep (j*((2^E:Nat):Int)):=by
 obtain⟨r,c,e⟩:=Jz (m:=j.natAbs) (E:=E) (by omega) b a
 refine⟨r,c,?_⟩
 rw [Int.natAbs_natCast] at e
 rw [bg];exact e
theorem mY {k E:Nat} {T:Int} (m:52<=E) (b:E<=1900) {G P:Int} (g:G=((2^E:Nat):Int)) (d:P=((2^k:Nat):Int)) (q: -(2097152*(G*P))<=T) (x:T<=2097152*(G*P)) :
  AS k T/\-(G*P)<=rI k T*P - T/\rI k T*P - T<=G*P:=by
 have f:0<G:=by rw [g];have:=Nat.two_pow_pos E;omega
 have e:0<P:=by rw [d];have:=Nat.two_pow_pos k;omega
 have a:0<G*P:=Int.mul_pos f e;obtain⟨j,c⟩:∃ j,T / (G*P)=j:=⟨_,rfl⟩;have s:j*(G*P)<=T:=by rw [<- c];exact Int.ediv_mul_le T (by omega)
 have u:T<(j+1)*(G*P):=by rw [<- c];exact Int.lt_ediv_add_one_mul_self T a
 have y: -2097152<=j:=by
  rw [<- c];refine (Int.le_ediv_iff_mul_le a).2 ?_
  rw [Int.neg_mul];exact q
 have z:j<=2097152:=by
  by_cases h:2097152<j
  ·have:=Int.mul_lt_mul_of_pos_right h a;omega
  ·omega
 have o:Rep (j*G):=by rw [g];exact qE (by omega) (by omega) m b
 have l:Rep ((j+1)*G):=by rw [g];exact qE (by omega) (by omega) m b
 have i:j*G*((2^k:Nat):Int)<=T:=by rw [<- d,Int.mul_assoc];exact s
 have p:T<=(j+1)*G*((2^k:Nat):Int):=by rw [<- d,Int.mul_assoc];omega
 have w:=pR o i;have r:=lw l p;have t:=Int.mul_le_mul_of_nonneg_right w (show 0<=P by omega)
 have n:=Int.mul_le_mul_of_nonneg_right r (show 0<=P by omega)
 rw [Int.mul_assoc] at t n
 have v:(j+1)*(G*P)=j*(G*P)+G*P:=by rw [Int.add_mul,Int.one_mul]
 rw [v] at u n
 exact⟨AT o l i p,by omega,by omega⟩
structure Scale (K:Nat) (g:Int):Prop where
 k:K=1074
 pos:0<g
 unit:((2^K:Nat):Int)=1267650600228229401496703205376*g
 grid:((2^1064:Nat):Int)=1237940039285380274899124224*g
 at_:∀ q p:Nat,q+974=p->((2^p:Nat):Int)=((2^q:Nat):Int)*g
theorem mZ {a b c:Nat} (h:a+b=c):((2^c:Nat):Int)=((2^a:Nat):Int)*((2^b:Nat):Int):=by
 subst h;rw [Nat.pow_add,Int.natCast_mul]
theorem QO:∃ K g,Scale K g:=by
 obtain⟨e,i⟩:∃ e,e=974:=⟨_,rfl⟩;obtain⟨K,d⟩:∃ K,K=1074:=⟨_,rfl⟩;obtain⟨L,f⟩:∃ L,L=1064:=⟨_,rfl⟩;refine⟨K,((2^e:Nat):Int),d,by have:=Nat.two_pow_pos e;omega,?_,?_,fun q p h=>mZ (by omega)⟩
 ·rw [mZ (a:=100) (b:=e) (c:=K) (by omega)];rfl
 ·rw [<- f,mZ (a:=90) (b:=e) (c:=L) (by omega)];rfl
theorem JA {K:Nat} {g:Int} (n:Scale K g) {x y:Nat} (e:ag x) (j:ag y) (p: -(2596148429267413814265248164610048*g)<=vI x+vI y) (o:vI x+vI y<=2596148429267413814265248164610048*g) :
  ∃ z,floatBits .add .f64 x y=some z/\ag z/\z<18446744073709551616/\-(1237940039285380274899124224*g)<=vI z - (vI x+vI y)/\vI z - (vI x+vI y)<=1237940039285380274899124224*g:=by
 obtain⟨E,h⟩:∃ E,E=1064:=⟨_,rfl⟩;have c:=n.grid;rw [<- h] at c
 obtain⟨f,a,b⟩:=mY (k:=0) (E:=E) (T:=vI x+vI y) (by omega) (by omega) (P:=1) rfl rfl (by rw [c];omega) (by rw [c];omega)
 obtain⟨z,l,m,i,d⟩:=tL e j f;rw [c] at a b
 rw [<- d] at a b
 exact⟨z,l,m,i,by omega,by omega⟩
theorem yu {K:Nat} {g:Int} (n:Scale K g) {x y:Nat} (e:ag x) (j:ag y) (p: -(2596148429267413814265248164610048*g)<=vI x - vI y) (o:vI x - vI y<=2596148429267413814265248164610048*g) :
  ∃ z,floatBits .sub .f64 x y=some z/\ag z/\z<18446744073709551616/\-(1237940039285380274899124224*g)<=vI z - (vI x - vI y)/\vI z - (vI x - vI y)<=1237940039285380274899124224*g:=by
 obtain⟨E,h⟩:∃ E,E=1064:=⟨_,rfl⟩;have c:=n.grid;rw [<- h] at c
 obtain⟨f,a,b⟩:=mY (k:=0) (E:=E) (T:=vI x - vI y) (by omega) (by omega) (P:=1) rfl rfl (by rw [c];omega) (by rw [c];omega)
 obtain⟨z,l,m,i,d⟩:=Fu e j f;rw [c] at a b
 rw [<- d] at a b
 exact⟨z,l,m,i,by omega,by omega⟩
theorem qF {K:Nat} {g:Int} (h:Scale K g) {x y:Nat} {c:Int} (q:ag x) (u:ag y) (hc:vI y=c*g) (p: -(3291009114642412084309938365114701009965471731267159726697218048*g)<=c*vI x) (o:c*vI x<=3291009114642412084309938365114701009965471731267159726697218048*g) :
  ∃ z,floatBits .mul .f64 x y=some z/\ag z/\z<18446744073709551616/\-(1569275433846670190958947355801916604025588861116008628224*g)<=1267650600228229401496703205376*vI z - c*vI x/\1267650600228229401496703205376*vI z - c*vI x<=1569275433846670190958947355801916604025588861116008628224*g:=by
 obtain⟨E,s⟩:∃ E,E=1064:=⟨_,rfl⟩;have j:=h.grid;rw [<- s] at j
 have e:=h.pos;have i:vI x*vI y=(c*vI x)*g:=by rw [hc,<- Int.mul_assoc,Int.mul_comm (vI x) c]
 have d:((2^E:Nat):Int)*((2^K:Nat):Int)=(1569275433846670190958947355801916604025588861116008628224*g)*g:=by
  rw [j,h.unit,<- Int.mul_assoc,show (1237940039285380274899124224*g*1267650600228229401496703205376:Int)=1569275433846670190958947355801916604025588861116008628224*g by omega]
 have l:=Int.mul_le_mul_of_nonneg_right p (show 0<=g by omega)
 have r:=Int.mul_le_mul_of_nonneg_right o (show 0<=g by omega)
 have m:(2097152:Int)*(1569275433846670190958947355801916604025588861116008628224*g*g)=3291009114642412084309938365114701009965471731267159726697218048*g*g:=by rw [<- Int.mul_assoc,<- Int.mul_assoc];rfl
 rw [Int.neg_mul] at l
 obtain⟨f,a,b⟩:=mY (k:=K) (E:=E) (T:=vI x*vI y) (by omega) (by omega) rfl rfl (by rw [d,m,i];exact l) (by rw [d,m,i];exact r)
 obtain⟨z,v,w,t,n⟩:=tN h.k q u f;rw [d,i,<- i,<- n,i,h.unit,<- Int.mul_assoc,Int.mul_comm (vI z),<- Int.sub_mul] at a b
 refine⟨z,v,w,t,?_,?_⟩
 ·rw [<- Int.neg_mul] at a
  exact Int.le_of_mul_le_mul_right a e
 ·exact Int.le_of_mul_le_mul_right b e
end Go.Proofs.YtfdddijdjpijbaaGreat
namespace Go.Proofs.YtfdddijdjpijbaaGreat
open Go.RowKit
theorem aZ (b:Nat) (w:World) (h:U64 b) :
  Calls Tryz.prog 70 #[.float .f64 b] w fun e a=>e=.returned (.bool (ah b))/\a=w:=by
 have c:(FloatKind.f64.format.order b b !=some .eq)=ah b:=by rw [bne,Mf h,Bool.not_not]
 clear h
 go_enter Tryz.func70,Tryz.ntmps70
 go_wp2
 go_ret
 exact⟨rfl,rfl⟩
theorem qG (x y:Int):(compare x y==.gt)=decide (y<x):=by
 show (compareOfLessAndEq x y==.gt)=_
 unfold compareOfLessAndEq
 by_cases a:x<y
 ·have:¬ y<x:=by omega
  simp [a,this]
 ·by_cases b:x=y
  ·simp [b]
  ·have:y<x:=by omega
   simp [a,b,this]
theorem lO {a b:Nat} (f:U64 a) (e:U64 b) (c:ah a=false) (d:ah b=false):(FloatKind.f64.format.order a b==some .gt)=decide (ae b<ae a):=by
 rw [kC (by have:=f.2;omega) (by have:=e.2;omega) c d,<- qG];rfl
theorem vT {r:Nat} (h:r<=9218868437227405312):ah (r:Int)=false:=by unfold ah szI;rw [decide_eq_false_iff_not];omega
theorem yv {r:Nat} (h:r<=9218868437227405312):ae (r:Int)=r:=by
 unfold ae;have a:sgB (r:Int)=false:=by unfold sgB;rw [decide_eq_false_iff_not];omega
 rw [vT h,a]
 show szI (r:Int)=r
 unfold szI;omega
theorem szN (x:Nat):szI (x:Int)=((x % 9223372036854775808:Nat):Int):=by unfold szI;omega
theorem qH {x:Nat} (h:ah (x:Int)=false):(FloatKind.f64.format.order (x % 9223372036854775808) 9218868437227405311==some .gt)=!aE (x:Int):=by
 have b:=fj h;have e:aE (x:Int)=decide (x % 9223372036854775808<9218868437227405312):=by
  unfold aE;rw [szN];exact decide_eq_decide.2 (by omega)
 rw [e];generalize x % 9223372036854775808=a at *
 rw [lO (af (by omega)) (af (by omega)) (vT b) (vT (r:=9218868437227405311) (by omega)),yv b,yv (r:=9218868437227405311) (by omega)]
 by_cases c:a<9218868437227405312
 ·rw [decide_eq_true c];exact decide_eq_false (by omega)
 ·rw [decide_eq_false c];exact decide_eq_true (by omega)
theorem lP {x:Nat} (h:ah (x:Int)=true):aE (x:Int)=false:=by
 unfold ah at h;unfold aE
 have:=of_decide_eq_true h;exact decide_eq_false (by omega)
theorem JB (x:Nat) (w:World) (h:U64 x) :
  Calls Tryz.prog 111 #[.float .f64 x] w fun e a=>e=.returned (.float .f64 (x % 9223372036854775808))/\a=w:=by
 have f:=sU;have d:=cg;have c:=dK h;have b:(szI (x:Int)).toNat=x % 9223372036854775808:=by rw [szN];rfl
 clear h
 go_enter Tryz.func111,Tryz.ntmps111
 go_wp2
 go_ret
 exact⟨rfl,rfl⟩
theorem iM (x:Nat) (g:Bool) (w:World) (h:U64 x) (c:(FloatKind.f64.format.order (x % 9223372036854775808) 9218868437227405311==some .gt)=g) :
  Calls Tryz.prog 71 #[.float .f64 x,.int .i64 0] w fun e b=>e=.returned (.bool g)/\b=w:=by
 have H:=hideS fun w=>JB x w h
 clear h;generalize x % 9223372036854775808=a at *
 go_enter Tryz.func71,Tryz.ntmps71
 go_wp2_with fail
 refine (H.out _).mono ?_
 rintro e b ⟨rfl,rfl⟩
 go_wp2_with fail
 go_ret
 exact⟨rfl,rfl⟩
theorem DI (k h l:Nat) (w:World) (b:floatBits .mul .f64 k 4604418534311723008=some h) (a:floatBits .mul .f64 k 4461442080421002358=some l) :
  Calls Tryz.prog 82 #[.float .f64 k] w fun e c=>e=.returned (.tuple #[.float .f64 h,.float .f64 l])/\c=w:=by
 have f:=fun w=>run_float_arith (P:=Tryz.prog) w .mul 27 .f64 _ _ _ b
 have d:=fun w=>run_float_arith (P:=Tryz.prog) w .mul 27 .f64 _ _ _ a
 clear b a
 go_enter Tryz.func82,Tryz.ntmps82
 go_wp2
 go_ret2
 exact⟨rfl,rfl⟩
theorem Nf (w:World) :
  Calls Tryz.prog 80 #[.int .i64 1] w fun e a=>e=.returned (.float .f64 9218868437227405312)/\a=w:=by
 have b:=cg
 go_enter Tryz.func80,Tryz.ntmps80
 go_wp2
 go_ret
 exact⟨rfl,rfl⟩
theorem Ng (x:Nat) (w:World) (h:U64 x) (hn:ah x=true) :
  Calls Tryz.prog 54 #[.float .f64 x] w fun e a=>e=.returned (.float .f64 x)/\a=w:=by
 have H:=hideS (aZ x w h);rw [hn] at H
 clear h hn
 go_enter Tryz.func54,Tryz.ntmps54
 go_wp2_with fail
 refine H.out.mono ?_
 rintro e a ⟨rfl,rfl⟩
 go_wp2_with fail
 go_ret
 exact⟨rfl,rfl⟩
theorem Py (x:Nat) (g e:Bool) (w:World) (h:U64 x) (hn:ah x=false) (d:(FloatKind.f64.format.order x 4649456441864749056==some .gt)=g) (c:(FloatKind.f64.format.order x 4649456441864749056==some .eq)=e) (a:(g||e)=true) :
  Calls Tryz.prog 54 #[.float .f64 x] w fun e b=>e=.returned (.float .f64 9218868437227405312)/\b=w:=by
 have H:=hideS (aZ x w h);rw [hn] at H
 clear h hn;cases g<;>cases e<;>first | (cases a;done) | skip
 all_goals
  clear a
  go_enter Tryz.func54,Tryz.ntmps54
  go_wp2_with fail
  refine H.out.mono ?_
  rintro e b ⟨rfl,rfl⟩
  go_wp2_with fail
  refine (Nf _).mono ?_
  rintro e b ⟨rfl,rfl⟩
  go_wp2_with fail
  go_ret
  exact⟨rfl,rfl⟩
theorem Pz (x:Nat) (g e:Bool) (w:World) (h:U64 x) (hn:ah x=false) (d:(FloatKind.f64.format.order x 4649456441864749056==some .gt)=false) (c:(FloatKind.f64.format.order x 4649456441864749056==some .eq)=false)
  (i:(FloatKind.f64.format.order x 13873145138068324352==some .lt)=g) (f:(FloatKind.f64.format.order x 13873145138068324352==some .eq)=e) (a:(g||e)=true) :
  Calls Tryz.prog 54 #[.float .f64 x] w fun e b=>e=.returned (.float .f64 0)/\b=w:=by
 have H:=hideS (aZ x w h);rw [hn] at H
 clear h hn;cases g<;>cases e<;>first | (cases a;done) | skip
 all_goals
  clear a
  go_enter Tryz.func54,Tryz.ntmps54
  go_wp2_with fail
  refine H.out.mono ?_
  rintro e b ⟨rfl,rfl⟩
  go_wp2_with fail
  go_ret
  exact⟨rfl,rfl⟩
theorem lQ (x y t f hi lo d r p:Nat) (k:Int) (w:World) (h:U64 x) (hn:ah x=false) (N:(FloatKind.f64.format.order x 4649456441864749056==some .gt)=false) (L:(FloatKind.f64.format.order x 4649456441864749056==some .eq)=false)
  (J:(FloatKind.f64.format.order x 13873145138068324352==some .lt)=false) (O:(FloatKind.f64.format.order x 13873145138068324352==some .eq)=false)
  (C:floatBits .mul .f64 x 4609176140021203710=some y) (G:floatBits .add .f64 y 4602678819172646912=some t) (I:Hid (∀ w,Calls Tryz.prog 81 #[.float .f64 t] w fun e a=>e=.returned (.float .f64 f)/\a=w))
  (v:floatBits .mul .f64 f 4604418534311723008=some hi) (E:floatBits .mul .f64 f 4461442080421002358=some lo) (s:floatBits .sub .f64 x hi=some d) (F:floatBits .sub .f64 d lo=some r)
  (Q:Hid (bj expL r=some p)) (up:Hid (U64 p)) (D:floatToIntVal .f64 f .i64=some k) (hk: -2000<=k/\k<=2000) (j: -2000<=aP p/\aP p<=2000) (c: -9223372036854775808<=az p/\az p<=9223372036854775807) :
  Calls Tryz.prog 54 #[.float .f64 x] w fun e a=>e=.returned (.float .f64 (aI (az p) (aP p+k)))/\Below w.heap.size w a:=by
 have H:=hideS (aZ x w h);rw [hn] at H
 have Z:=fun w=>run_float_arith (P:=Tryz.prog) w .mul 27 .f64 _ _ _ C
 have R:=fun w=>run_float_arith (P:=Tryz.prog) w .add 27 .f64 _ _ _ G
 have W:=fun w=>run_float_arith (P:=Tryz.prog) w .sub 27 .f64 _ _ _ s
 have r6:=fun w=>run_float_arith (P:=Tryz.prog) w .sub 27 .f64 _ _ _ F
 have Y:=fun w=>run_convert_float_int (P:=Tryz.prog) w 27 3 .f64 .i64 f k (by kernel_rfl) Tryz.underlying3 D
 have K:Hid (∀ w,Calls Tryz.prog 82 #[.float .f64 f] w fun e a=>e=.returned (.tuple #[.float .f64 hi,.float .f64 lo])/\a=w):=fun w=>DI f hi lo w v E
 have b:Hid (∀ w,Calls Tryz.prog 85 #[.float .f64 p] w fun e a=>e=.returned (.tuple #[.int .i64 (az p),.int .i64 (aP p),.bool (ay p)])/\a=w):=fun w=>fI p p w rfl up.out
 have i:Hid (∀ w,Calls Tryz.prog 86 #[.int .i64 (az p),.int .i64 (aP p+k)] w fun e a=>e=.returned (.float .f64 (aI (az p) (aP p+k)))/\∃ n,a=w.drewN n):=fun w=>ce _ _ w c.1 c.2
 clear h hn C G v E s F D c;generalize aI (az p) (aP p+k)=M at i
 generalize az p=U at i b
 generalize aP p=V at i b j
 generalize ay p=S at b
 go_enter Tryz.func54,Tryz.ntmps54
 go_wp2_with fail
 refine (turned H.out).mono ?_
 rintro e a ⟨rfl,rfl⟩;clear H
 go_wp2_with fail
 refine (turned (I.out _)).mono ?_
 rintro e a ⟨rfl,rfl⟩
 go_wp2_with fail
 refine (turned (K.out _)).mono ?_
 rintro e a ⟨rfl,rfl⟩
 go_wp2_with fail
 have u:=hideS (vQ w);refine u.out.mono ?_
 rintro e m ⟨rfl,z,A⟩;have g:=hideS A;have B:Hid (Calls Tryz.prog 83 #[.slice (some ⟨w.heap.size,0,none⟩) 14 14,.float .f64 r] m fun e a=>∃ l,e=.returned (.float .f64 l)/\Ag (bj expL r) l/\∃ q,a=m.drewN q):=pT _ _ _ 14 r 14 expL m z rfl (by decide)
 rw [Q.out] at B
 clear z A u
 go_wp2_with fail
 refine B.out.mono ?_
 rintro e T ⟨l,rfl,o,q,rfl⟩;obtain rfl:=cz o
 go_wp2_with fail
 refine (turned (b.out _)).mono ?_
 rintro e a ⟨rfl,rfl⟩
 go_wp2_with fail
 refine (i.out _).mono ?_
 rintro e a ⟨rfl,X,rfl⟩
 go_wp2_with fail
 go_ret
 exact⟨rfl,⟨g.out.os,g.out.tape,g.out.output,g.out.size,g.out.block⟩⟩
end Go.Proofs.YtfdddijdjpijbaaGreat
namespace Go.Proofs.YtfdddijdjpijbaaGreat
theorem lS (b:Nat) (h:decide (b % 9223372036854775808<9218868437227405312)=true):ag b:=by unfold ag;exact of_decide_eq_true h
theorem go {K:Nat} {g:Int} (c:Scale K g) {b m p:Nat} (q:Nat) (d:sB b=false) (f:mg (b % 9223372036854775808)=m) (e:pl (b % 9223372036854775808)=p) (a:q+974=p):vI b=((m*2^q:Nat):Int)*g:=by
 rw [iq,d];unfold sgZ aV V;rw [if_neg (by decide),f,e,Int.natCast_mul,c.at_ q p a,Int.natCast_mul,Int.mul_assoc]
theorem vU {K:Nat} {g:Int} (a:Scale K g):vI 4609176140021203710=1828833234529184396638827839488*g:=by
 rw [go a (b:=4609176140021203710) 48 (by decide+kernel) (m:=6497320848556798) (by decide+kernel) (p:=1022) (by decide+kernel) rfl];rfl
theorem BA {K:Nat} {g:Int} (a:Scale K g):vI 4602678819172646912=633825300114114700748351602688*g:=by
 rw [go a (b:=4602678819172646912) 47 (by decide+kernel) (m:=4503599627370496) (by decide+kernel) (p:=1021) (by decide+kernel) rfl];rfl
theorem BB {K:Nat} {g:Int} (a:Scale K g):vI 4604418534311723008=878668439241424593572830642176*g:=by
 rw [go a (b:=4604418534311723008) 47 (by decide+kernel) (m:=6243314766446592) (by decide+kernel) (p:=1021) (by decide+kernel) rfl];rfl
theorem Fv {K:Nat} {g:Int} (a:Scale K g):vI 4461442080421002358=241894980045432881152*g:=by
 rw [go a (b:=4461442080421002358) 15 (by decide+kernel) (m:=7382048951581814) (by decide+kernel) (p:=989) (by decide+kernel) rfl];rfl
theorem lT {K:Nat} {g:Int} (c:Scale K g) {m:Int} (f: -9007199254740992<=m) (e:m<=9007199254740992):vI (fi m)=1267650600228229401496703205376*(m*g)/\ag (fi m)/\fi m<18446744073709551616:=by
 obtain⟨a,b,_,d⟩:=nJ c.k f e;refine⟨?_,b,d⟩
 rw [a,c.unit,<- Int.mul_assoc,Int.mul_comm m,Int.mul_assoc]
theorem vV {x y t:Nat} (h:ag x) (g:ag y) (f:sB y=false) (c:floatBits .add .f64 x y=some t):t % 9223372036854775808≠0\/sB t=false:=by
 rw [lv h g] at c
 have e:jc (x / 9223372036854775808 % 2==1) (y / 9223372036854775808 % 2==1) (vI x+vI y)=t:=Option.some.inj c;have b:(y / 9223372036854775808 % 2==1)=false:=f;rw [b] at e
 unfold jc at e
 generalize vI x+vI y=T at e
 by_cases a:T=0
 ·rw [if_pos a,Bool.and_false,if_neg (by decide)] at e
  right;rw [<- e];rfl
 ·left
  rw [if_neg a,mX a] at e
  have d:=Dk (T:=T.natAbs) (r:=1) (k:=0) (by decide) (by rw [show V 1=1 by decide];omega)
  have i:=jh T.natAbs (-1074);have j:1<=nearR T.natAbs (-1074):=d;rw [<- e];unfold wrd;generalize nearR T.natAbs (-1074)=r at *
  split<;>omega
theorem BC {X Y t Q hi lo d r g:Int} (c: -(945667347770259133516540591210496*g)<X) (i:X<900031926162042875062659275816960*g)
  (y1: -(1569275433846670190958947355801916604025588861116008628224*g)<=1267650600228229401496703205376*Y - 1828833234529184396638827839488*X) (n:1267650600228229401496703205376*Y - 1828833234529184396638827839488*X<=1569275433846670190958947355801916604025588861116008628224*g)
  (t1: -(1237940039285380274899124224*g)<=t - (Y+633825300114114700748351602688*g)) (o:t - (Y+633825300114114700748351602688*g)<=1237940039285380274899124224*g)
  (a:1267650600228229401496703205376*Q<=t) (e:t<1267650600228229401496703205376*Q+1267650600228229401496703205376*g)
  (p: -(1569275433846670190958947355801916604025588861116008628224*g)<=1267650600228229401496703205376*hi - 878668439241424593572830642176*(1267650600228229401496703205376*Q)) (h:1267650600228229401496703205376*hi - 878668439241424593572830642176*(1267650600228229401496703205376*Q)<=1569275433846670190958947355801916604025588861116008628224*g)
  (m: -(1569275433846670190958947355801916604025588861116008628224*g)<=1267650600228229401496703205376*lo - 241894980045432881152*(1267650600228229401496703205376*Q)) (f:1267650600228229401496703205376*lo - 241894980045432881152*(1267650600228229401496703205376*Q)<=1569275433846670190958947355801916604025588861116008628224*g)
  (k: -(1237940039285380274899124224*g)<=d - (X - hi)) (j:d - (X - hi)<=1237940039285380274899124224*g)
  (l: -(1237940039285380274899124224*g)<=r - (d - lo)) (b:r - (d - lo)<=1237940039285380274899124224*g) :
  -(633825300114114700748351602688*g)<=r/\r<=633825300114114700748351602688*g:=by
 constructor<;>omega
theorem Fw {K:Nat} {g:Int} (a:Scale K g) {x:Nat} (v:ag x) (H: -(945667347770259133516540591210496*g)<vI x) (T:vI x<900031926162042875062659275816960*g) :
  ∃ (y t hi lo d r:Nat) (k:Int),floatBits .mul .f64 x 4609176140021203710=some y/\floatBits .add .f64 y 4602678819172646912=some t/\ag t/\Ieee.double.write ((Ieee.double.read t).integral .down)=fi k/\k*((2^K:Nat):Int)<=vI t/\vI t<(k+1)*((2^K:Nat):Int)/\-2000<=k/\k<=2000/\
   floatBits .mul .f64 (fi k) 4604418534311723008=some hi/\floatBits .mul .f64 (fi k) 4461442080421002358=some lo/\floatBits .sub .f64 x hi=some d/\floatBits .sub .f64 d lo=some r/\ag r/\r<18446744073709551616/\-(633825300114114700748351602688*g)<=vI r/\vI r<=633825300114114700748351602688*g:=by
 have hg:=a.pos;obtain⟨y,Z,z,_,y1,X⟩:=qF a v (lS 4609176140021203710 (by decide)) (vU a) (by omega) (by omega)
 have q:=BA a;obtain⟨t,C,A,_,u,E⟩:=JA a z (lS 4602678819172646912 (by decide)) (by rw [q];omega) (by rw [q];omega)
 rw [q] at u E
 obtain⟨k,R,f,i⟩:=Bw a.k A (vV z (lS 4602678819172646912 (by decide)) (by decide+kernel) C)
 have p:=f;have j:=i;rw [a.unit,<- Int.mul_assoc,Int.mul_comm k,Int.mul_assoc] at f
 rw [a.unit,Int.add_mul,Int.one_mul,<- Int.mul_assoc,Int.mul_comm k,Int.mul_assoc] at i
 have e: -2000<=k:=by
  by_cases h: -2000<=k
  ·exact h
  ·have:=Int.mul_le_mul_of_nonneg_right (show k<=-2001 by omega) (show 0<=g by omega)
   omega
 have c:k<=2000:=by
  by_cases h:k<=2000
  ·exact h
  ·have:=Int.mul_le_mul_of_nonneg_right (show 2001<=k by omega) (show 0<=g by omega)
   omega
 have o:=Int.mul_le_mul_of_nonneg_right e (show 0<=g by omega)
 have n:=Int.mul_le_mul_of_nonneg_right c (show 0<=g by omega)
 obtain⟨b,s,_⟩:=lT a (m:=k) (by omega) (by omega)
 obtain⟨Q,I⟩:∃ Q,k*g=Q:=⟨_,rfl⟩;rw [I] at b f i o n
 obtain⟨hi,S,L,_,F,B⟩:=qF a s (lS 4604418534311723008 (by decide)) (BB a) (by rw [b];omega) (by rw [b];omega)
 obtain⟨lo,l0,ln,_,D,w⟩:=qF a s (lS 4461442080421002358 (by decide)) (Fv a) (by rw [b];omega) (by rw [b];omega)
 rw [b] at F B D w
 obtain⟨d,M,J,_,V,U⟩:=yu a v L (by omega) (by omega)
 obtain⟨r,Y,N,l,W,G⟩:=yu a J ln (by omega) (by omega)
 obtain⟨O,P⟩:=BC H T y1 X u E f i F B D w V U W G;exact⟨y,t,hi,lo,d,r,k,Z,C,A,R,p,j,e,c,S,l0,M,Y,N,l,O,P⟩
end Go.Proofs.YtfdddijdjpijbaaGreat
namespace Go.Proofs.YtfdddijdjpijbaaGreat
open Go.RowKit
theorem qI {a b A B:Int} (g: -A<=a) (e:a<=A) (d: -B<=b) (c:b<=B): -(A*B)<=a*b/\a*b<=A*B:=by
 have h:(a*b).natAbs<=(A*B).natAbs:=by
  rw [Int.natAbs_mul,Int.natAbs_mul];exact Nat.mul_le_mul (by omega) (by omega)
 have f:0<=A*B:=Int.mul_nonneg (by omega) (by omega)
 omega
theorem jY {K:Nat} {g:Int} (a:Scale K g) (j:Int) (c: -10<j) (b:j<10):Rep (1267650600228229401496703205376*(j*g)):=by
 have:=qE (j:=j) (E:=K) (by omega) (by omega) (by have:=a.k;omega) (by have:=a.k;omega)
 rw [a.unit,<- Int.mul_assoc,Int.mul_comm j,Int.mul_assoc] at this
 exact this
theorem yw {K:Nat} {g:Int} (c:Scale K g) {p r:Nat} (l:ag p) (u:ag r) (m: -(2535301200456458802993406410752*g)<=vI p) (w:vI p<=2535301200456458802993406410752*g) (v: -(633825300114114700748351602688*g)<=vI r) (n:vI r<=633825300114114700748351602688*g) :
  ∃ z,floatBits .mul .f64 p r=some z/\ag z/\z<18446744073709551616/\-(1267650600228229401496703205376*g)<=vI z/\vI z<=1267650600228229401496703205376*g:=by
 obtain⟨a,b⟩:=qI m w v n;have h:=jY c (-1) (by decide) (by decide)
 have f:=jY c 1 (by decide) (by decide)
 have e:(2535301200456458802993406410752*g)*(633825300114114700748351602688*g)=1267650600228229401496703205376*g*(1267650600228229401496703205376*g):=by
  rw [show (2535301200456458802993406410752:Int)*g=(1267650600228229401496703205376*g)*2 by omega,Int.mul_assoc (1267650600228229401496703205376*g),show (2:Int)*(633825300114114700748351602688*g)=1267650600228229401496703205376*g by omega]
 rw [e] at a b
 have d:1267650600228229401496703205376*(-1*g)*((2^K:Nat):Int)<=vI p*vI r:=by
  rw [c.unit,show (1267650600228229401496703205376:Int)*(-1*g)= -(1267650600228229401496703205376*g) by omega,Int.neg_mul];exact a
 have i:vI p*vI r<=1267650600228229401496703205376*(1*g)*((2^K:Nat):Int):=by
  rw [c.unit,Int.one_mul];exact b
 obtain⟨z,q,t,o,j⟩:=tN c.k l u (AT h f d i);have x:=pR h d;have s:=lw f i;rw [<- j] at x s
 exact⟨z,q,t,o,by omega,by omega⟩
theorem yx {K:Nat} {g:Int} (f:Scale K g) {q c:Nat} (r:ag q) (hc:ag c) (l:Int) (b: -10<l) (a:l<10) (t1:1267650600228229401496703205376*(l*g)<=vI q+vI c) (s:vI q+vI c<=2535301200456458802993406410752*g) :
  ∃ z,floatBits .add .f64 q c=some z/\ag z/\z<18446744073709551616/\1267650600228229401496703205376*(l*g)<=vI z/\vI z<=2535301200456458802993406410752*g:=by
 have h:=jY f l b a;have e:=jY f 2 (by decide) (by decide)
 have d:1267650600228229401496703205376*(l*g)*((2^0:Nat):Int)<=vI q+vI c:=by rw [show ((2^0:Nat):Int)=1 from rfl,Int.mul_one];exact t1
 have i:vI q+vI c<=1267650600228229401496703205376*(2*g)*((2^0:Nat):Int):=by rw [show ((2^0:Nat):Int)=1 from rfl,Int.mul_one];omega
 obtain⟨z,n,p,m,k⟩:=tL r hc (AT h e d i);have j:=pR h d;have o:=lw e i;rw [<- k] at j o
 exact⟨z,n,p,m,j,by omega⟩
theorem tO {K:Nat} {g:Int} (c:Scale K g):vI 4607182418800017408=1267650600228229401496703205376*g/\ag 4607182418800017408:=by
 obtain⟨a,b,_⟩:=lT c (m:=1) (by decide) (by decide)
 rw [Pc] at a b
 rw [Int.one_mul] at a
 exact⟨a,b⟩
theorem yz:∀ i,i<14->expL.getD i 0<=4607182418800017408:=by decide+kernel
theorem tP {K:Nat} {g:Int} (a:Scale K g) {c:Nat} (h:c<=4607182418800017408):ag c/\0<=vI c/\vI c<=1267650600228229401496703205376*g:=by
 have e:vI c=(V c:Int):=by
  rw [iq];unfold sB aV;rw [show c / 9223372036854775808 % 2=0 by omega,show c % 9223372036854775808=c by omega];rfl
 have b:vI 4607182418800017408=(V 4607182418800017408:Int):=by
  rw [iq];unfold sB aV;rfl
 have d:=El h;rw [(tO a).1] at b
 refine⟨by unfold ag;omega,by omega,by omega⟩
theorem Fx {K:Nat} {g:Int} (d:Scale K g) {r:Nat} (o:ag r) (s: -(633825300114114700748351602688*g)<=vI r) (j:vI r<=633825300114114700748351602688*g) :
  ∀ i,i<=12->∃ p,hornAt expL r i=some p/\ag p/\-(2535301200456458802993406410752*g)<=vI p/\vI p<=2535301200456458802993406410752*g:=by
 have x:=d.pos;intro i
 induction i with
 | zero=>
  intro _;obtain⟨a,b,c⟩:=tP d (yz 13 (by omega))
  exact⟨expL.getD 13 0,rfl,a,by omega,by omega⟩
 | succ i n=>
  intro hi;obtain⟨p,e,f,h,v⟩:=n (by omega)
  obtain⟨q,k,t,_,y,A⟩:=yw d f o h v s j;obtain⟨a,b,c⟩:=tP d (yz (14 - 2 - i) (by omega))
  obtain⟨z,u,l,_,w,m⟩:=yx d t a (-1) (by decide) (by decide) (by omega) (by omega)
  refine⟨z,?_,l,by omega,m⟩
  show gj r (hornAt expL r i) (expL.getD (14 - 2 - i) 0)=some z
  rw [e]
  show ((some p).bind fun p=>floatBits .mul .f64 p r).bind _=_
  rw [show ((some p).bind fun p=>floatBits .mul .f64 p r)=some q from k]
  exact u
theorem JC {K:Nat} {g:Int} (a:Scale K g) {r:Nat} (f:ag r) (h: -(633825300114114700748351602688*g)<=vI r) (c:vI r<=633825300114114700748351602688*g) :
  ∃ p,bj expL r=some p/\ag p/\p<18446744073709551616/\0<=vI p:=by
 have u:=a.pos;obtain⟨p,e,i,j,s⟩:=Fx a f h c 12 (by omega)
 obtain⟨q,k,n,_,v,w⟩:=yw a i f j s h c;obtain⟨d,l⟩:=tO a;obtain⟨z,o,m,b,t,_⟩:=yx a n l 0 (by decide) (by decide) (by rw [d];omega) (by rw [d];omega)
 refine⟨z,?_,m,b,by omega⟩
 show gj r (hornAt expL r 12) 4607182418800017408=some z
 rw [e]
 show ((some p).bind fun p=>floatBits .mul .f64 p r).bind _=_
 rw [show ((some p).bind fun p=>floatBits .mul .f64 p r)=some q from k]
 exact o
theorem PA {p:Nat} (hn:ag p) (k:p<18446744073709551616) (e:0<=vI p):0<=az p/\az p<9007199254740992/\-2000<=aP p/\aP p<=2000:=by
 have b:szI (p:Int)=((p % 9223372036854775808:Nat):Int):=by unfold szI;omega
 have d:ay (p:Int)=true:=by unfold ay;rw [b];unfold ag at hn;simp;omega
 have c: -2000<=aP p/\aP p<=2000:=by
  unfold aP kE;rw [b];unfold ag at hn
  split
  ·split<;>omega
  ·omega
 unfold az;rw [d,if_pos rfl,b];obtain⟨r,g⟩:∃ r,p % 9223372036854775808=r:=⟨_,rfl⟩;have i:0<=gz (r:Int)/\gz (r:Int)<9007199254740992:=by unfold gz;split<;>omega
 have j:sgB (p:Int)=true->r=0:=fun h=>by
  have l:sB p=true:=by
   unfold sgB at h
   unfold sB;have:9223372036854775808<=p:=by have:=of_decide_eq_true h;omega
   rw [show p / 9223372036854775808 % 2=1 by omega];rfl
  rw [iq,l] at e
  have f:aV p=0:=by unfold sgZ at e;simp at e;omega
  unfold aV at f
  rw [g] at f
  have:=fD (r:=r) (s:=0);rw [bp] at this
  exact this.1 f
 rw [g]
 by_cases a:sgB (p:Int)=true
 ·rw [if_pos a,j a];refine⟨by decide,by decide,c.1,c.2⟩
 ·rw [if_neg a];exact⟨i.1,i.2,c.1,c.2⟩
theorem JD {m e:Int} (h:0<=m):aI m e<=9218868437227405312:=by
 unfold aI
 split
 ·omega
 ·rw [if_neg (by omega)];exact jh _ _
theorem Fy:∀ a:Nat,a<64->∀ b:Nat,b<64->floatToIntVal .f64 (fi (((64*a+b:Nat):Int) - 2000)) .i64=some (((64*a+b:Nat):Int) - 2000):=by decide+kernel
theorem JE {k:Int} (a: -2000<=k) (b:k<=2000):floatToIntVal .f64 (fi k) .i64=some k:=by
 have:=Fy ((k+2000).toNat / 64) (by omega) ((k+2000).toNat % 64) (by omega)
 rw [show ((64*((k+2000).toNat / 64)+(k+2000).toNat % 64:Nat):Int) - 2000=k by omega] at this
 exact this
theorem Nh {m:Int} (a:0<=m) (b:m<9007199254740992): -9223372036854775808<=m/\m<=9223372036854775807:=by omega
theorem qJ {a b:Nat} (l:ag a) (i:ag b) (c:a<18446744073709551616) (d:b<18446744073709551616) (h:ae a<ae b):vI a<vI b:=by
 have m:ah (a:Int)=false:=by unfold ag at l;unfold ah szI;rw [decide_eq_false_iff_not];omega
 have j:ah (b:Int)=false:=by unfold ag at i;unfold ah szI;rw [decide_eq_false_iff_not];omega
 rw [<- cb c m,<- cb d j] at h
 have f:vI a=sgZ (a / 9223372036854775808 % 2==1) (V (a % 9223372036854775808)):=rfl;have k:vI b=sgZ (b / 9223372036854775808 % 2==1) (V (b % 9223372036854775808)):=rfl;rw [f,k];generalize a % 9223372036854775808=r at *
 generalize b % 9223372036854775808=s at *
 generalize (a / 9223372036854775808 % 2==1)=p at *
 generalize (b / 9223372036854775808 % 2==1)=q at *
 have o:=cN (r:=r) (s:=s);have n:=cN (r:=s) (s:=r);have e:=cN (r:=0) (s:=s);have g:=cN (r:=0) (s:=r);rw [bp] at e g
 unfold sgn at h
 unfold sgZ;cases p<;>cases q<;>simp only [Bool.false_eq_true,if_true,if_false] at* <;>omega
theorem Ni:fi 710=4649456441864749056:=by decide+kernel
theorem PB:fi (-746)=13873145138068324352:=by decide+kernel
theorem Nm (w:World) :
  Calls Tryz.prog 80 #[.int .i64 (-1)] w fun e a=>e=.returned (.float .f64 18442240474082181120)/\a=w:=by
 have b:=cg
 go_enter Tryz.func80,Tryz.ntmps80
 go_wp2
 go_ret
 exact⟨rfl,rfl⟩
theorem yB (w:World) :
  Calls Tryz.prog 132 #[] w fun e a=>e=.returned (.float .f64 9221120237041090561)/\a=w:=by
 have b:=cg
 go_enter Tryz.func132,Tryz.ntmps132
 go_wp2
 go_ret
 exact⟨rfl,rfl⟩
theorem nh (x:Nat) (g:Bool) (w:World) (b:(FloatKind.f64.format.order x 9218868437227405311==some .gt)=g) :
  Calls Tryz.prog 71 #[.float .f64 x,.int .i64 1] w fun e a=>e=.returned (.bool g)/\a=w:=by
 go_enter Tryz.func71,Tryz.ntmps71
 go_wp2
 go_ret
 exact⟨rfl,rfl⟩
theorem FC (x b c:Nat) (n e L:Int) (h g:Bool) (w:World) (k:Hid (∀ w,Calls Tryz.prog 85 #[.float .f64 x] w fun r a=>r=.returned (.tuple #[.int .i64 n,.int .i64 e,.bool h])/\a=w))
  (hn:0<n/\n<9007199254740992) (m: -2000<=e/\e<=2000) (f:Hid (∀ w,Calls Tryz.prog 233 #[.int .u64 n] w fun r a=>r=.returned (.int .i64 L)/\a=w)) (i:0<=L/\L<=64)
  (j:Hid (∀ w,Calls Tryz.prog 86 #[.int .i64 n,.int .i64 (1 - L)] w fun r a=>r=.returned (.float .f64 b)/\∃ q,a=w.drewN q))
  (l:(FloatKind.f64.format.order b 4609047870845172685==some .gt)=g) (d:floatBits .quo .f64 b 4611686018427387904=some c) :
  Calls Tryz.prog 229 #[.float .f64 x] w fun r a=>r=.returned (.tuple #[.float .f64 (if g then c else b),.int .i64 (if g then e+L else e+L - 1)])/\∃ q,a=w.drewN q:=by
 have o:=fun w=>run_float_arith (P:=Tryz.prog) w .quo 27 .f64 _ _ _ d
 clear d;cases g
 all_goals
  simp only [Bool.false_eq_true,if_true,if_false]
  go_enter Tryz.func229,Tryz.ntmps229
  go_wp2_with fail
  refine (turned (k.out _)).mono ?_
  rintro r a ⟨rfl,rfl⟩
  go_wp2_with fail
  refine (turned (f.out _)).mono ?_
  rintro r a ⟨rfl,rfl⟩
  go_wp2_with fail
  refine (j.out _).mono ?_
  rintro r a ⟨rfl,q,rfl⟩
  go_wp2_with fail
  go_ret2
  exact⟨rfl,_,rfl⟩
theorem PC (x:Nat) (w:World) (h:U64 x) (hn:ah x=true) :
  Calls Tryz.prog 223 #[.float .f64 x] w fun e a=>e=.returned (.float .f64 9221120237041090561)/\a=w:=by
 have H:=hideS (aZ x w h);rw [hn] at H
 clear h hn
 go_enter Tryz.func223,Tryz.ntmps223
 go_wp2_with fail
 refine H.out.mono ?_
 rintro e a ⟨rfl,rfl⟩
 go_wp2_with fail
 refine (yB _).mono ?_
 rintro e a ⟨rfl,rfl⟩
 go_wp2_with fail
 go_ret
 exact⟨rfl,rfl⟩
theorem PD (x:Nat) (w:World) (h:U64 x) (hn:ah x=false) (b:(FloatKind.f64.format.order x 0==some .lt)=true) :
  Calls Tryz.prog 223 #[.float .f64 x] w fun e a=>e=.returned (.float .f64 9221120237041090561)/\a=w:=by
 have H:=hideS (aZ x w h);rw [hn] at H
 clear h hn
 go_enter Tryz.func223,Tryz.ntmps223
 go_wp2_with fail
 refine H.out.mono ?_
 rintro e a ⟨rfl,rfl⟩
 go_wp2_with fail
 refine (yB _).mono ?_
 rintro e a ⟨rfl,rfl⟩
 go_wp2_with fail
 go_ret
 exact⟨rfl,rfl⟩
theorem Nn (x:Nat) (w:World) (h:U64 x) (hn:ah x=false) (c:(FloatKind.f64.format.order x 0==some .lt)=false) (b:(FloatKind.f64.format.order x 0==some .eq)=true) :
  Calls Tryz.prog 223 #[.float .f64 x] w fun e a=>e=.returned (.float .f64 18442240474082181120)/\a=w:=by
 have H:=hideS (aZ x w h);rw [hn] at H
 clear h hn
 go_enter Tryz.func223,Tryz.ntmps223
 go_wp2_with fail
 refine H.out.mono ?_
 rintro e a ⟨rfl,rfl⟩
 go_wp2_with fail
 refine (Nm _).mono ?_
 rintro e a ⟨rfl,rfl⟩
 go_wp2_with fail
 go_ret
 exact⟨rfl,rfl⟩
theorem PE (x:Nat) (w:World) (h:U64 x) (hn:ah x=false) (d:(FloatKind.f64.format.order x 0==some .lt)=false) (c:(FloatKind.f64.format.order x 0==some .eq)=false) (hi:(FloatKind.f64.format.order x 9218868437227405311==some .gt)=true) :
  Calls Tryz.prog 223 #[.float .f64 x] w fun e a=>e=.returned (.float .f64 x)/\a=w:=by
 have H:=hideS (aZ x w h);rw [hn] at H
 have b:=hideS (nh x true w hi);clear h hn hi
 go_enter Tryz.func223,Tryz.ntmps223
 go_wp2_with fail
 refine H.out.mono ?_
 rintro e a ⟨rfl,rfl⟩
 go_wp2_with fail
 refine b.out.mono ?_
 rintro e a ⟨rfl,rfl⟩
 go_wp2_with fail
 go_ret
 exact⟨rfl,rfl⟩
theorem qK (b:Nat) (h:decide (b % 9223372036854775808<9218868437227405312)=true):ag b:=by unfold ag;exact of_decide_eq_true h
theorem qL (w:World):Calls Tryz.prog 81 #[.float .f64 4602678819172646912] w fun e a=>e=.returned (.float .f64 0)/\a=w:=
 lN _ 0 w (qK _ (by decide)) (by decide+kernel)
theorem Rn (w:World):Calls Tryz.prog 54 #[.float .f64 0] w fun e a=>e=.returned (.float .f64 4607182418800017408)/\Below w.heap.size w a:=by
 have:=lQ 0 0 4602678819172646912 0 0 0 0 0 4607182418800017408 0 w (by unfold U64;omega) (by decide) (by decide) (by decide) (by decide) (by decide) (by decide+kernel) (by decide+kernel) qL (by decide+kernel) (by decide+kernel) (by decide+kernel) (by decide+kernel) (by show _=_;decide+kernel) (by show U64 _;unfold U64;omega) (by decide+kernel) (by omega) (by decide+kernel) (by decide+kernel)
 rw [show aI (az (4607182418800017408:Nat)) (aP (4607182418800017408:Nat)+0)=4607182418800017408 by decide+kernel] at this
 exact this
def dA (base:Int) (a:List Int):Nat->Int
 | 0=>base
 | k+1=>a.getD k 0
def kR (base:Int) (a:List Int) (b:List Nat) (i:Nat):Bool:=decide (a.getD i 0<=dA base a i)||decide (109572<a.getD i 0)||!aE (b.getD i 0:Nat)||!ltB 0 (b.getD i 0:Nat)
structure OkV (base kind:Int) (ds:List Int) (fs:List Nat):Prop where
 b0:0<=base
 b1:base<=109572
 k1:1<=kind
 k4:kind<=4
 lo:1<=ds.length
 hi:ds.length<=255
 len:fs.length=ds.length
 node:∀ i<ds.length,kR base ds fs i=false
inductive CurR (base kind:Int) (ds:List Int) (fs:List Nat):Int->Prop
 | ok (h:OkV base kind ds fs):CurR base kind ds fs 0
 | base (h:base<0\/109572<base):CurR base kind ds fs 51
 | kind (b0:0<=base) (b1:base<=109572) (h:kind<1\/4<kind):CurR base kind ds fs 90
 | len (b0:0<=base) (b1:base<=109572) (h1:1<=kind) (h4:kind<=4) (h:ds.length<1\/255<ds.length\/fs.length≠ds.length):CurR base kind ds fs 100
 | node (b0:0<=base) (b1:base<=109572) (h1:1<=kind) (h4:kind<=4) (lo:1<=ds.length) (hi:ds.length<=255) (len:fs.length=ds.length) (K:Nat) (hK:K<ds.length) (bad:kR base ds fs K=true) (fine:∀ i<K,kR base ds fs i=false):CurR base kind ds fs 100
theorem oX (base kind:Int) (a:List Int) (c:List Nat):∃ E,CurR base kind a c E:=by
 by_cases b:base<0\/109572<base
 ·exact⟨51,.base b⟩
 ·by_cases g:kind<1\/4<kind
  ·exact⟨90,.kind (by omega) (by omega) g⟩
  ·by_cases f:a.length<1\/255<a.length\/c.length≠a.length
   ·exact⟨100,.len (by omega) (by omega) (by omega) (by omega) f⟩
   ·by_cases b:∃ i<a.length,kR base a c i=true
    ·obtain⟨K,d,j,h⟩:=eZ _ b;exact⟨100,.node (by omega) (by omega) (by omega) (by omega) (by omega) (by omega) (by omega) K d j h⟩
    ·exact⟨0,.ok ⟨by omega,by omega,by omega,by omega,by omega,by omega,by omega,fun i hi=>by
      cases e:kR base a c i
      ·rfl
      ·exact absurd ⟨i,hi,e⟩ b⟩⟩
theorem ka {base kind:Int} {b:List Int} {c:List Nat} (h:CurR base kind b c 0):OkV base kind b c:=by
 generalize a:(0:Int)=E at h
 cases h with
 | ok h=>exact h
 | base h=>cases a
 | kind=>cases a
 | len=>cases a
 | node=>cases a
theorem co {base:Int} {e:List Int} {f:List Nat} {i:Nat} (h:kR base e f i=false):dA base e i<e.getD i 0/\e.getD i 0<=109572/\aE (f.getD i 0:Nat)=true/\ltB 0 (f.getD i 0:Nat)=true:=by
 unfold kR at h
 simp only [Bool.or_eq_false_iff,decide_eq_false_iff_not,Bool.not_eq_false'] at h
 obtain⟨⟨⟨a,b⟩,c⟩,d⟩:=h;exact⟨by omega,by omega,c,d⟩
def ctX (base:Int) (a:List Int):List Int:=base::a
def ctY (a:List Nat):List Nat:=4607182418800017408::a
theorem BW (base:Int) (a:List Int) (i:Nat):(ctX base a).getD i 0=dA base a i:=by
 cases i<;>rfl
theorem OkV.pos {base kind:Int} {a:List Int} {b:List Nat} (h:OkV base kind a b):∀ i≤a.length,0<=dA base a i
 | 0,_=>h.b0
 | i+1,hi=>by
  have:=co (h.node i (by omega))
  have:=OkV.pos h i (by omega)
  show 0<=a.getD i 0
  omega
theorem OkV.top {base kind:Int} {a:List Int} {b:List Nat} (h:OkV base kind a b):∀ i≤a.length,dA base a i<=109572
 | 0,_=>h.b1
 | i+1,hi=>(co (h.node i (by omega))).2.1
theorem OkV.table {base kind:Int} {e:List Int} {g:List Nat} (h:OkV base kind e g):OkT kind (ctX base e) (ctY g):=by
 refine⟨h.k1,h.k4,by simp [ctX],by have:=h.hi;simp [ctX];omega,by simp [ctX,ctY,h.len],fun i hi=>?_⟩
 have f:i<=e.length:=by have:i<e.length+1:=hi;omega
 have p:=h.pos i f;have t:=h.top i f;unfold eO;rw [BW,decide_eq_false (show ¬ dA base e i<0 by omega),decide_eq_false (show ¬ 109572<dA base e i by omega)]
 cases i with
 | zero=>
  show (false||false||(decide (0<0)&&_)||!aE (4607182418800017408:Nat)||(decide (kind=4)&&!ltB 0 (4607182418800017408:Nat)))=false
  rw [show aE (4607182418800017408:Nat)=true by decide,show ltB 0 (4607182418800017408:Nat)=true by decide];simp
 | succ i=>
  obtain⟨a,b,c,d⟩:=co (h.node i (by omega))
  have l:(ctX base e).getD (i+1 - 1) 0=dA base e i:=by rw [Nat.add_sub_cancel,BW]
  have k:(ctY g).getD (i+1) 0=g.getD i 0:=rfl;have j:dA base e (i+1)=e.getD i 0:=rfl;rw [l,k,j,c,d,decide_eq_false (show ¬ e.getD i 0<=dA base e i by omega)];simp
def prvF (a:List Nat):Nat->Nat
 | 0=>4607182418800017408
 | k+1=>a.getD k 0
def nV (a:List Nat):Bool:=(List.range a.length).all fun i=>!ltB (prvF a i:Nat) (a.getD i 0:Nat)
inductive FallR (fs:List Nat):Bool->Prop
 | yes (h:∀ i<fs.length,ltB (prvF fs i:Nat) (fs.getD i 0:Nat)=false):FallR fs true
 | no (K:Nat) (hK:K<fs.length) (bad:ltB (prvF fs K:Nat) (fs.getD K 0:Nat)=true) (fine:∀ i<K,ltB (prvF fs i:Nat) (fs.getD i 0:Nat)=false):FallR fs false
theorem Kr (a:List Nat):FallR a (nV a):=by
 by_cases d:∃ i<a.length,ltB (prvF a i:Nat) (a.getD i 0:Nat)=true
 ·obtain⟨K,c,e,f⟩:=eZ _ d;have:nV a=false:=by
   unfold nV;rw [List.all_eq_false];exact⟨K,List.mem_range.2 c,by rw [e];decide⟩
  rw [this];exact .no K c e f
 ·have b:∀ i<a.length,ltB (prvF a i:Nat) (a.getD i 0:Nat)=false:=fun i hi=>by
   cases g:ltB (prvF a i:Nat) (a.getD i 0:Nat)
   ·rfl
   ·exact absurd ⟨i,hi,g⟩ d
  have:nV a=true:=by
   unfold nV;rw [List.all_eq_true];intro i hi;rw [b i (List.mem_range.1 hi)];rfl
  rw [this];exact .yes b
end Go.Proofs.YtfdddijdjpijbaaGreat
