/-  -/
import Derived.Test.YtfdddijdjpijbaaGreatHar
import Derived.Test.YtfdddijdjpijbaaGreatHay
import Derived.Deep.RegionHeld3
import Derived.Test.YtfdddijdjpijbaaGreatHaq
import Derived.Test.YtfdddijdjpijbaaGreatHas
import Derived.Test.YtfdddijdjpijbaaGreatHax
set_option maxHeartbeats 3200000
set_option maxRecDepth 20000
namespace Go.Proofs.YtfdddijdjpijbaaGreat
open Go.RowKit
def sAdd (x y:Nat):Nat:=cn (floatBits .add .f64 x y)
def sSub (x y:Nat):Nat:=cn (floatBits .sub .f64 x y)
def sMul (x y:Nat):Nat:=cn (floatBits .mul .f64 x y)
def sDiv (x y:Nat):Nat:=cn (floatBits .quo .f64 x y)
theorem vv {op:BinOp} (a:op=.add\/op=.sub\/op=.mul\/op=.quo) (x y:Nat):cn (floatBits op .f64 x y)<18446744073709551616:=by
 cases h:floatBits op .f64 x y with
 | none=>decide
 | some r=>exact cR a h
theorem vw (x y:Nat):sSub x y<18446744073709551616:=vv (by simp) x y
theorem jV (x y:Nat):sDiv x y<18446744073709551616:=vv (by simp) x y
theorem Dn (x y:Nat):sMul x y<18446744073709551616:=vv (by simp) x y
theorem vz (x y:Nat):sAdd x y<18446744073709551616:=vv (by simp) x y
theorem aU {x:Nat} (h:x<18446744073709551616):U64 (x:Nat):=⟨by omega,by omega⟩
theorem xF (x y:Nat) (w:World) (c:x<18446744073709551616) (b:y<18446744073709551616) :
  Calls Tryz.prog 35 #[.int .u64 (x:Int),.int .u64 (y:Int)] w fun e a=>e=.returned (.int .u64 (sSub x y:Int))/\Below w.heap.size w a:=dR x y _ _ w rfl rfl (aU c) (aU b)
theorem gR (x y:Nat) (w:World) (c:x<18446744073709551616) (b:y<18446744073709551616) :
  Calls Tryz.prog 144 #[.int .u64 (x:Int),.int .u64 (y:Int)] w fun e a=>e=.returned (.int .u64 (sDiv x y:Int))/\Below w.heap.size w a:=iD x y _ _ w rfl rfl (aU c) (aU b)
theorem xG (x y:Nat) (w:World) (c:x<18446744073709551616) (b:y<18446744073709551616) :
  Calls Tryz.prog 63 #[.int .u64 (x:Int),.int .u64 (y:Int)] w fun e a=>e=.returned (.int .u64 (sMul x y:Int))/\Below w.heap.size w a:=cX x y _ _ w rfl rfl (aU c) (aU b)
theorem xH (x y:Nat) (w:World) (c:x<18446744073709551616) (b:y<18446744073709551616) :
  Calls Tryz.prog 50 #[.int .u64 (x:Int),.int .u64 (y:Int)] w fun e a=>e=.returned (.int .u64 (sAdd x y:Int))/\Below w.heap.size w a:=fM x y _ _ w rfl rfl (aU c) (aU b)
theorem kw {n:Int} (b: -9007199254740992<=n) (a:n<=9007199254740992):fi n<18446744073709551616:=(nJ rfl b a).2.2.2
def steepB (xs:List Int) (ys:List Nat) (k:Nat):Nat:=sDiv (sSub (ys.getD (k+1) 0) (ys.getD k 0)) (fi (xs.getD (k+1) 0 - xs.getD k 0))
structure Six6 (w:World) (B:Nat) (vx vy:Value) (bx ox b2 oy k j:Nat) (x0 x1:Int) (y0 y1:Nat):Prop where
 t1:w.cell? ⟨B,1,none⟩=some vx
 t2:w.cell? ⟨B,2,none⟩=some vy
 a0:w.cell? ⟨bx,ox+k,none⟩=some (.int .i64 x0)
 a1:w.cell? ⟨bx,ox+j,none⟩=some (.int .i64 x1)
 b0:w.cell? ⟨b2,oy+k,none⟩=some (.int .u64 (y0:Int))
 b1:w.cell? ⟨b2,oy+j,none⟩=some (.int .u64 (y1:Int))
theorem Six6.all {w:World} {B:Nat} {i f:Value} {a d b c k j:Nat} {e g:Int} {y0 y1:Nat} (h:Six6 w B i f a d b c k j e g y0 y1):w.cell? ⟨B,1,none⟩=some i/\w.cell? ⟨B,2,none⟩=some f/\w.cell? ⟨a,d+k,none⟩=some (.int .i64 e)/\w.cell? ⟨a,d+j,none⟩=some (.int .i64 g)/\w.cell? ⟨b,c+k,none⟩=some (.int .u64 (y0:Int))/\w.cell? ⟨b,c+j,none⟩=some (.int .u64 (y1:Int)):=⟨h.t1,h.t2,h.a0,h.a1,h.b0,h.b1⟩
theorem Six6.step {w o:World} {B s:Nat} {n f:Value} {c e b d k j:Nat} {l g:Int} {y0 y1:Nat} (h:Six6 w B n f c e b d k j l g y0 y1) (a:Below s w o) (q:B<s) (i:c<s) (m:b<s):Six6 o B n f c e b d k j l g y0 y1:=
 ⟨(a.cell (p:=⟨B,1,none⟩) q).trans h.t1,(a.cell (p:=⟨B,2,none⟩) q).trans h.t2,(a.cell (p:=⟨c,e+k,none⟩) i).trans h.a0,(a.cell (p:=⟨c,e+j,none⟩) i).trans h.a1,(a.cell (p:=⟨b,d+k,none⟩) m).trans h.b0,(a.cell (p:=⟨b,d+j,none⟩) m).trans h.b1⟩
theorem Six6.drew {w:World} {B:Nat} {g d:Value} {a i b e k j:Nat} {c f:Int} {y0 y1:Nat} (h:Six6 w B g d a i b e k j c f y0 y1):Six6 w.drew B g d a i b e k j c f y0 y1:=⟨h.t1,h.t2,h.a0,h.a1,h.b0,h.b1⟩
theorem EK (kind:Int) (h l cx g j cy n k:Nat) (b a:Int) (y0 y1:Nat) (w w1:World) (C:w.alloc (.cells #[.int .i64 kind,.slice (some ⟨h,l,none⟩) n cx,.slice (some ⟨g,j,none⟩) n cy] 156)=w1) (H:Six6 w1 w.heap.size (.slice (some ⟨h,l,none⟩) n cx) (.slice (some ⟨g,j,none⟩) n cy) h l g j k (k+1) b a y0 y1) (L:k+1<n) (hn:n<=1000) (t:h<w1.heap.size) (q:g<w1.heap.size) (o:Below w.heap.size w w1) (m:w.heap.size<w1.heap.size) (h0:0<=b) (V:b<=109572) (S:0<=a) (Q:a<=109572) (u:y0<18446744073709551616) (r:y1<18446744073709551616) :
  Calls Tryz.prog 186 #[.agg #[.int .i64 kind,.slice (some ⟨h,l,none⟩) n cx,.slice (some ⟨g,j,none⟩) n cy],.int .i64 (k:Int)] w fun e M=>e=.returned (.int .u64 (sDiv (sSub y1 y0) (fi (a - b)):Int))/\Below w.heap.size w M:=by
 have O:k<n:=by omega
 have T:IntKind.i64.wrap ((k:Int)+1)=(k:Int)+1:=by rw [IntKind.wrap_i64];omega
 have g1:(0:Int)<=(k:Int)+1:=by omega
 have Z:(k:Int)+1<(n:Int):=by omega
 have g3:(0:Int)<=(k:Int):=by omega
 have g4:(k:Int)<(n:Int):=by omega
 have f2:IntKind.i64.wrap (a - b)=a - b:=by rw [IntKind.wrap_i64];omega
 have y:=hideS fun s=>xF y1 y0 s r u
 have A:=hideS fun s=>cY (a - b) s (by omega) (by omega)
 have B:=hideS fun s=>gR (sSub y1 y0) (fi (a - b)) s (vw _ _) (kw (by omega) (by omega))
 generalize sDiv (sSub y1 y0) (fi (a - b))=R at *
 generalize sSub y1 y0=U at *
 generalize fi (a - b)=F at *
 have E:=hideS H;have p:=hideS o;have d:=hideS (And.intro m (And.intro t q));obtain⟨t1,t2,Y,a1,b0,b1⟩:=H;clear u r o m t q
 go_enter Tryz.func186,Tryz.ntmps186
 go_wp2_with fail
 clear C
 go_region_held3 (fun x=>x.cell? ⟨w.heap.size,1,none⟩=some (.slice (some ⟨h,l,none⟩) n cx)/\x.cell? ⟨w.heap.size,2,none⟩=some (.slice (some ⟨g,j,none⟩) n cy)/\x.cell? ⟨h,l+k,none⟩=some (.int .i64 b)/\x.cell? ⟨h,l+(k+1),none⟩=some (.int .i64 a)/\x.cell? ⟨g,j+k,none⟩=some (.int .u64 (y0:Int))/\x.cell? ⟨g,j+(k+1),none⟩=some (.int .u64 (y1:Int))) (first | exact E.out.all | exact D.out.all | exact J.out.all | exact K.out.all | go_keep) (first | ((go_at_call 35;refine (y.out _).mono ?_;rintro e W ⟨rfl,f⟩;have G:=hideS (p.out.drew.trans (f.mono p.out.size));have D:=hideS (E.out.drew.step f d.out.1 d.out.2.1 d.out.2.2);have v:=hideS (Nat.le_trans (Nat.le_refl w1.heap.size) f.size);clear f)) | ((go_at_call 101;refine (A.out _).mono ?_;rintro e X ⟨rfl,c⟩;have I:=hideS (G.out.trans (c.mono G.out.size));have J:=hideS (D.out.step c (Nat.lt_of_lt_of_le d.out.1 v.out) (Nat.lt_of_lt_of_le d.out.2.1 v.out) (Nat.lt_of_lt_of_le d.out.2.2 v.out));have z:=hideS (Nat.le_trans v.out c.size);clear c)) | ((go_at_call 144;refine (B.out _).mono ?_;rintro e P ⟨rfl,i⟩;have N:=hideS (I.out.trans (i.mono I.out.size));have K:=hideS (J.out.step i (Nat.lt_of_lt_of_le d.out.1 z.out) (Nat.lt_of_lt_of_le d.out.2.1 z.out) (Nat.lt_of_lt_of_le d.out.2.2 z.out));clear i)))
 all_goals
  go_wp2_with fail
  go_ret
  exact⟨rfl,N.out⟩
theorem Fh {M s:Nat} (b:M≠0) (h:M.log2<s):bO M s false=1:=by
 have a:M<2^s:=(Nat.log2_lt b).1 h;unfold bO;rw [Nat.mod_eq_of_lt a,Nat.div_eq_of_lt a,if_neg (fun c=>b c.1),if_neg (by decide)]
theorem oC {M s:Nat} {p:Int} (b:M≠0) (h:(s:Int)+p<=-1076):nearR (bO M s false) (s+p)=nearR M p:=by
 have k:ak (bO M s false) (s+p)=ak M p:=by
  by_cases a:s<=M.log2
  ·obtain⟨c,_⟩:=cW false a b;unfold ak;rw [c];congr 1;omega
  ·rw [Fh b (by omega)]
   unfold ak;rw [show Nat.log2 1=0 by decide]
   omega
 have i:(s:Int)+p+2<=ak M p:=by unfold ak;omega
 unfold nearR;rw [k];obtain⟨d,l⟩:∃ d:Nat,ak M p=s+p+d:=⟨(ak M p - (s+p)).toNat,by omega⟩
 have j:((s:Int)+p - ak M p).toNat=0:=by omega
 have g:(p - ak M p).toNat=0:=by omega
 have f:(ak M p - (s+p)).toNat=d:=by omega
 have e:(ak M p - p).toNat=d+s:=by omega
 rw [j,g,f,e,Nat.pow_zero,Nat.mul_one,Nat.mul_one];have a:bO M s false=(if M % 2^s=0 then M / 2^s else (if M / 2^s % 2=1 then M / 2^s else M / 2^s+1)):=by unfold bO;simp only [and_true]
 rw [a,kF (by omega)]
theorem vH {X Y a b:Nat} {p:Int} (l:X≠0) (i:0<Y) (n:a<=b) (k:p - a<=-1076):nearR (aN X Y a) (p - a)=nearR (aN X Y b) (p - b):=by
 obtain⟨t,rfl⟩:∃ t,b=a+t:=⟨b - a,by omega⟩
 have g:=tu (X:=X) a t i;obtain⟨M,h⟩:∃ M,aN X Y (a+t)=M:=⟨_,rfl⟩;have f:M≠0:=by
  rw [<- h];unfold aN;have m:0<X*2^(a+t):=Nat.mul_pos (by omega) (Nat.two_pow_pos _)
  generalize X*2^(a+t)=A at *
  have e:=Nat.div_add_mod A Y
  by_cases d:A % Y=0
  ·rw [if_pos d];intro c;have j:A / Y=0:=by omega
   rw [j,d,Nat.mul_zero] at e
   omega
  ·rw [if_neg d];omega
 rw [h] at g ⊢
 have:=oC (M:=M) (s:=t) (p:=p - ((a+t:Nat):Int)) f (by omega)
 rw [g,show (t:Int)+(p - ((a+t:Nat):Int))=p - a by omega] at this
 exact this
theorem Ji (X Y a k:Nat):aN (X*2^a) Y k=aN X Y (a+k):=by
 unfold aN;rw [Nat.mul_assoc,<- Nat.pow_add]
def overG (N:Int) (d:Nat):Nat:=if N=0 then 0 else wrd (decide (N<0)) (nearR (aN N.natAbs d 0) (-2149))
def gA (N:Int) (d:Nat):Int:=if N=0 then 0 else if N<0 then -(nearR (aN N.natAbs d 0) (-2149):Int) else (nearR (aN N.natAbs d 0) (-2149):Int)
theorem qp (M:Nat) (p:Int):nearR M p<=9218868437227405312:=by
 rw [kG];omega
theorem Fj (s:Bool) {r:Nat} (h:r<=9218868437227405312):U64 (wrd s r:Nat)/\ah (wrd s r:Nat)=false/\ae (wrd s r:Nat)=if s then -(r:Int) else (r:Int):=by
 have a:ah (wrd s r:Nat)=false:=by
  unfold ah szI wrd;rw [decide_eq_false_iff_not];cases s<;>simp<;>omega
 refine⟨by unfold U64 wrd;cases s<;>simp<;>omega,a,?_⟩
 unfold ae;rw [a,if_neg (by decide)]
 unfold sgB szI wrd;cases s
 ·have:¬ (9223372036854775808:Int)<=(r:Int):=by omega
  simp [this];omega
 ·simp;omega
theorem cD (N:Int) (d:Nat):U64 (overG N d:Nat)/\ah (overG N d:Nat)=false/\ae (overG N d:Nat)=gA N d:=by
 unfold overG gA
 by_cases e:N=0
 ·rw [if_pos e,if_pos e];exact⟨by unfold U64;decide,by decide,by decide⟩
 ·rw [if_neg e,if_neg e];obtain⟨a,b,c⟩:=Fj (decide (N<0)) (qp (aN N.natAbs d 0) (-2149));refine⟨a,b,?_⟩
  rw [c]
  by_cases f:N<0<;>simp [f]
theorem qr {X a Y k:Nat} (h:X<=a):aN X Y k<=aN a Y k:=by
 have d:X*2^k<=a*2^k:=Nat.mul_le_mul_right _ h;unfold aN;generalize X*2^k=A at *
 generalize a*2^k=B at *
 have f:A / Y<=B / Y:=Nat.div_le_div_right d;have c:=Nat.div_add_mod A Y;have e:=Nat.div_add_mod B Y
 by_cases b:A / Y=B / Y
 ·rw [b] at c ⊢
  have:A % Y<=B % Y:=by omega
  split<;>split<;>omega
 ·split<;>split<;>omega
theorem tD {N a:Int} (d:Nat) (h:N<=a):gA N d<=gA a d:=by
 unfold gA
 by_cases b:a<0
 ·have:=bW (-2149) (qr (Y:=d) (k:=0) (show a.natAbs<=N.natAbs by omega))
  rw [if_neg (by omega),if_pos (by omega),if_neg (by omega),if_pos b]
  omega
 ·by_cases c:0<N
  ·have:=bW (-2149) (qr (Y:=d) (k:=0) (show N.natAbs<=a.natAbs by omega))
   rw [if_neg (by omega),if_neg (by omega),if_neg (by omega),if_neg (by omega)]
   omega
  ·(repeat' split)<;>omega
theorem Jn (N:Int) (d:Nat):gA (-N) d= -gA N d:=by
 unfold gA
 by_cases a:N=0
 ·rw [if_pos a,if_pos (by omega)];rfl
 ·rw [if_neg a,if_neg (by omega),Int.natAbs_neg]
  by_cases b:N<0
  ·rw [if_pos b,if_neg (by omega)];omega
  ·rw [if_neg b,if_pos (by omega)]
theorem Dv {r d K:Nat} (j:K=1074) (g:r<9218868437227405312) (h:0<d):gA (((V r*2^K*d:Nat)):Int) d=r:=by
 unfold gA
 by_cases f:V r*2^K*d=0
 ·rw [f,if_pos (show ((0:Nat):Int)=0 from rfl)]
  have i:V r=0:=by
   have k:=Nat.two_pow_pos K;rcases Nat.mul_eq_zero.1 f with c | c
   ·rcases Nat.mul_eq_zero.1 c with c | c<;>omega
   ·omega
  have:V r=V 0:=by rw [i,bp]
  rw [fD] at this
  rw [this];rfl
 ·rw [if_neg (by omega),if_neg (by omega),Int.natAbs_natCast]
  have e:aN (V r*2^K*d) d 0=V r*2^(K+1):=by
   unfold aN;rw [Nat.pow_zero,Nat.mul_one,Nat.mul_div_cancel _ h,Nat.mul_mod_left,if_pos rfl,Nat.pow_succ,Nat.add_zero];generalize V r=a;generalize 2^K=b;rw [Nat.mul_comm 2,Nat.mul_assoc]
  rw [e];have:=jT g (K+1);rw [show (-1074:Int) - ((K+1:Nat):Int)= -2149 by omega] at this
  rw [this]
def uI (K:Nat) (y:Nat):Int:=vI y*((2^K:Nat):Int)
theorem vI_rank {y:Nat} (c:y<18446744073709551616) (d:ag y):(0<=ae (y:Nat)/\vI y=(V (y % 9223372036854775808):Int)/\ae (y:Nat)=((y % 9223372036854775808:Nat):Int))\/(ae (y:Nat)<=0/\vI y= -(V (y % 9223372036854775808):Int)/\ae (y:Nat)= -((y % 9223372036854775808:Nat):Int)):=by
 unfold ag at d
 have e:ah (y:Nat)=false:=by unfold ah szI;rw [decide_eq_false_iff_not];omega
 unfold ae vI;rw [e,if_neg (by decide)]
 unfold sgB szI
 by_cases f:y<9223372036854775808
 ·left
  have b:¬ (9223372036854775808:Int)<=(y:Int):=by omega
  have a:y / 9223372036854775808 % 2=0:=by omega
  rw [a];simp only [b,decide_false,Bool.false_eq_true,if_false,show ((0:Nat)==1)=false from rfl]
  exact⟨by omega,trivial,by omega⟩
 ·right
  have b:(9223372036854775808:Int)<=(y:Int):=by omega
  have a:y / 9223372036854775808 % 2=1:=by omega
  rw [a];simp only [b,decide_true,if_true,beq_self_eq_true];exact⟨by omega,trivial,by omega⟩
theorem yc {y d K:Nat} (e:K=1074) (a:y<18446744073709551616) (f:ag y) (g:0<d):gA (uI K y*(d:Int)) d=ae (y:Nat):=by
 unfold ag at f
 rcases vI_rank a f with⟨_,b,c⟩| ⟨_,b,c⟩
 ·unfold uI;rw [b,c,<- Dv (r:=y % 9223372036854775808) e (by omega) g]
  simp only [Int.natCast_mul]
 ·unfold uI;rw [b,c,<- Dv (r:=y % 9223372036854775808) e (by omega) g,Int.neg_mul,Int.neg_mul,Jn]
  simp only [Int.natCast_mul]
theorem Dw {y d K:Nat} {N:Int} (b:K=1074) (a:y<18446744073709551616) (c:ag y) (e:0<d) (h:uI K y*(d:Int)<=N):ae (y:Nat)<=gA N d:=by
 rw [<- yc b a c e];exact tD d h
theorem Dx {y d K:Nat} {N:Int} (b:K=1074) (a:y<18446744073709551616) (c:ag y) (e:0<d) (h:N<=uI K y*(d:Int)):gA N d<=ae (y:Nat):=by
 rw [<- yc b a c e];exact tD d h
theorem nQ {x y:Nat} (K:Nat) (l:x<18446744073709551616) (c:ag x) (g:y<18446744073709551616) (d:ag y) (h:ae (x:Nat)<=ae (y:Nat)):uI K x<=uI K y:=by
 have i:(0:Int)<=((2^K:Nat):Int):=Int.natCast_nonneg _;unfold uI;refine Int.mul_le_mul_of_nonneg_right ?_ i
 rcases vI_rank l c with⟨n,b,e⟩| ⟨n,b,e⟩ <;>rcases vI_rank g d with⟨j,a,f⟩| ⟨j,a,f⟩
 ·rw [b,a];have:=El (r:=x % 9223372036854775808) (s:=y % 9223372036854775808) (by omega);omega
 ·rw [b,a];have m:x % 9223372036854775808=0:=by omega
  have k:y % 9223372036854775808=0:=by omega
  rw [m,k,bp];omega
 ·rw [b,a];omega
 ·rw [b,a];have:=El (r:=y % 9223372036854775808) (s:=x % 9223372036854775808) (by omega);omega
def eX (n i u0 u1:Int):Int:=(n - i)*u0+i*u1
theorem Jo {n i u0 u1:Int} (c:0<=i) (d:i<=n) (h:u0<=u1):u0*n<=eX n i u0 u1/\eX n i u0 u1<=u1*n:=by
 unfold eX;have a:i*u0<=i*u1:=Int.mul_le_mul_of_nonneg_left h c;have b:(n - i)*u0<=(n - i)*u1:=Int.mul_le_mul_of_nonneg_left h (by omega)
 have e:(n - i)*u0=n*u0 - i*u0:=Int.sub_mul ..;have f:(n - i)*u1=n*u1 - i*u1:=Int.sub_mul ..;rw [Int.mul_comm u0 n,Int.mul_comm u1 n];omega
theorem Jp {n i j u0 u1:Int} (h:u0<=u1) (b:i<=j):eX n i u0 u1<=eX n j u0 u1:=by
 unfold eX;have a:(j - i)*u0<=(j - i)*u1:=Int.mul_le_mul_of_nonneg_left h (by omega)
 rw [Int.sub_mul,Int.sub_mul] at a
 rw [Int.sub_mul,Int.sub_mul];omega
theorem vK (n i u0 u1:Int):eX n i (-u0) (-u1)= -eX n i u0 u1:=by
 unfold eX;rw [Int.mul_neg,Int.mul_neg];omega
def eM (n i u0 u1 u2 u3:Int):Int:=(n - i)*(n - i)*(n - i)*u0+3*(n - i)*(n - i)*i*u1+3*(n - i)*i*i*u2+i*i*i*u3
def wA (n i:Int):Int:=n*n*n - (n - i)*(n - i)*(n - i)
def wB (n i:Int):Int:=i*i*(3*(n - i)+i)
def wC (i:Int):Int:=i*i*i
theorem Dy (x:Int):3*x=x+x+x:=by omega
theorem QK (x:Int):2*x=x+x:=by omega
theorem tE (n i u0 u1 u2 u3:Int):eM n i u0 u1 u2 u3=n*n*n*u0+wA n i*(u1 - u0)+wB n i*(u2 - u1)+wC i*(u3 - u2):=by
 unfold eM wA wB wC;obtain⟨a,b⟩:∃ a,n - i=a:=⟨_,rfl⟩;have c:n=a+i:=by omega
 rw [b,c];simp only [Dy];simp only [Int.mul_add,Int.add_mul,Int.mul_sub,Int.sub_mul,Int.mul_assoc];simp only [Int.mul_comm,Int.mul_left_comm];omega
theorem Dz {i j:Int} (a:0<=i) (h:i<=j):wC i<=wC j:=by
 unfold wC;have b:i*i<=j*j:=Int.mul_le_mul h h a (by omega)
 exact Int.mul_le_mul b h a (Int.mul_nonneg (by omega) (by omega))
theorem MZ {n i j:Int} (h:i<=j) (hn:j<=n):wA n i<=wA n j:=by
 unfold wA;have:=Dz (i:=n - j) (j:=n - i) (by omega) (by omega)
 unfold wC at this
 omega
theorem Na (a i t:Int):(i+t)*(i+t)*(3*(a - t)+(i+t)) - i*i*(3*a+i)=t*(3*(i*(2*a - t))+t*(3*a - 2*t)):=by
 simp only [Dy,QK];simp only [Int.mul_add,Int.add_mul,Int.mul_sub,Int.mul_assoc];simp only [Int.mul_comm,Int.mul_left_comm];omega
theorem Nb {n i j:Int} (b:0<=i) (h:i<=j) (hn:j<=n):wB n i<=wB n j:=by
 obtain⟨t,c⟩:∃ t,j=i+t:=⟨j - i,by omega⟩
 obtain⟨a,d⟩:∃ a,n - i=a:=⟨_,rfl⟩;have e:=Na a i t;unfold wB;rw [c,d,show n - (i+t)=a - t by omega]
 have f:0<=i*(2*a - t):=Int.mul_nonneg b (by omega)
 have k:0<=t*(3*a - 2*t):=Int.mul_nonneg (by omega) (by omega)
 have g:0<=t*(3*(i*(2*a - t))+t*(3*a - 2*t)):=Int.mul_nonneg (by omega) (by omega)
 omega
theorem qs {n i j u0 u1 u2 u3:Int} (d:0<=i) (h:i<=j) (hn:j<=n) (e:u0<=u1) (g:u1<=u2) (f:u2<=u3):eM n i u0 u1 u2 u3<=eM n j u0 u1 u2 u3:=by
 rw [tE,tE];have a:=Int.mul_le_mul_of_nonneg_right (MZ h hn) (show 0<=u1 - u0 by omega)
 have b:=Int.mul_le_mul_of_nonneg_right (Nb d h hn) (show 0<=u2 - u1 by omega)
 have c:=Int.mul_le_mul_of_nonneg_right (Dz d h) (show 0<=u3 - u2 by omega)
 omega
theorem DA (n u0 u1 u2 u3:Int):eM n 0 u0 u1 u2 u3=u0*(n*n*n):=by
 unfold eM;simp only [Int.sub_zero,Int.mul_zero,Int.zero_mul,Int.add_zero];exact Int.mul_comm _ _
theorem DB (n u0 u1 u2 u3:Int):eM n n u0 u1 u2 u3=u3*(n*n*n):=by
 unfold eM;simp only [Int.sub_self,Int.mul_zero,Int.zero_mul,Int.zero_add];exact Int.mul_comm _ _
theorem Ps {n i u0 u1 u2 u3:Int} (d:0<=i) (h:i<=n) (c:u0<=u1) (f:u1<=u2) (e:u2<=u3):u0*(n*n*n)<=eM n i u0 u1 u2 u3/\eM n i u0 u1 u2 u3<=u3*(n*n*n):=by
 have a:=qs (n:=n) (Int.le_refl 0) d h c f e;have b:=qs (n:=n) d h (Int.le_refl n) c f e;rw [DA] at a
 rw [DB] at b
 exact⟨a,b⟩
theorem DC (n i u0 u1 u2 u3:Int):eM n i (-u0) (-u1) (-u2) (-u3)= -eM n i u0 u1 u2 u3:=by
 unfold eM;rw [Int.mul_neg,Int.mul_neg,Int.mul_neg,Int.mul_neg];omega
theorem yd {n i j u0 u1 u2 u3:Int} (a:0<=i) (h:i<=j) (hn:j<=n) (b:u1<=u0) (d:u2<=u1) (c:u3<=u2):eM n j u0 u1 u2 u3<=eM n i u0 u1 u2 u3:=by
 have:=qs (n:=n) (u0:=-u0) (u1:=-u1) (u2:=-u2) (u3:=-u3) a h hn (by omega) (by omega) (by omega)
 rw [DC,DC] at this
 omega
theorem Pt {n i u0 u1 u2 u3:Int} (d:0<=i) (h:i<=n) (c:u1<=u0) (f:u2<=u1) (e:u3<=u2):u3*(n*n*n)<=eM n i u0 u1 u2 u3/\eM n i u0 u1 u2 u3<=u0*(n*n*n):=by
 have a:=yd (n:=n) (Int.le_refl 0) d h c f e;have b:=yd (n:=n) d h (Int.le_refl n) c f e;rw [DA] at a
 rw [DB] at b
 exact⟨b,a⟩
theorem QL {n i j u0 u1:Int} (h:u1<=u0) (a:i<=j):eX n j u0 u1<=eX n i u0 u1:=by
 have:=Jp (n:=n) (u0:=-u0) (u1:=-u1) (by omega) a
 rw [vK,vK] at this
 omega
theorem Pu {n i u0 u1:Int} (b:0<=i) (a:i<=n) (h:u1<=u0):u1*n<=eX n i u0 u1/\eX n i u0 u1<=u0*n:=by
 have:=Jo (n:=n) (u0:=-u0) (u1:=-u1) b a (by omega)
 rw [vK,Int.neg_mul,Int.neg_mul] at this
 omega
end Go.Proofs.YtfdddijdjpijbaaGreat
namespace Go.Proofs.YtfdddijdjpijbaaGreat
theorem Nc {X a Y k:Nat} (h:X<=a):aN X Y k<=aN a Y k:=by
 unfold aN;have e:X*2^k<=a*2^k:=Nat.mul_le_mul_right _ h;generalize X*2^k=A at *
 generalize a*2^k=B at *
 have f:=Nat.div_le_div_right (c:=Y) e;have d:=Nat.div_add_mod A Y;have g:=Nat.div_add_mod B Y
 by_cases b:A / Y=B / Y
 ·rw [b] at d ⊢
  have:A % Y<=B % Y:=by omega
  split<;>split<;>omega
 ·split<;>split<;>omega
theorem Fr {X Y b k:Nat} (d:0<Y) (h:Y<=b):aN X b k<=aN X Y k:=by
 unfold aN;generalize X*2^k=A;have f:=Nat.div_le_div_left (a:=A) h d;have i:=Nat.div_add_mod A Y;have e:=Nat.div_add_mod A b
 by_cases c:A / b=A / Y
 ·have g:Y*(A / Y)<=b*(A / Y):=Nat.mul_le_mul_right _ h;rw [c] at e ⊢
  have:A % b<=A % Y:=by omega
  split<;>split<;>omega
 ·split<;>split<;>omega
theorem Bv {X Y a b K:Nat} (h:b<=a+K):aN (X*2^a) (Y*2^b) K=aN X Y (a+K - b):=by
 have e:X*2^a*2^K=X*2^(a+K - b)*2^b:=by
  rw [Nat.mul_assoc,<- Nat.pow_add,Nat.mul_assoc,<- Nat.pow_add,show a+K - b+b=a+K by omega]
 unfold aN;rw [e,Nat.mul_div_mul_right _ _ (Nat.two_pow_pos b),Nat.mul_mod_mul_right];have d:=Nat.two_pow_pos b;generalize X*2^(a+K - b) % Y=m
 by_cases c:m=0
 ·rw [if_pos c,if_pos (by rw [c,Nat.zero_mul])]
 ·rw [if_neg c,if_neg (fun e=>by rcases Nat.mul_eq_zero.1 e with e | e<;>omega)]
def qR (X Y:Nat):Nat:=if X=0 then 0 else nearR (aN X Y 2200) (-2201)
theorem QM {X b Y:Nat} (h:X<=b):qR X Y<=qR b Y:=by
 unfold qR
 by_cases a:X=0
 ·rw [if_pos a];exact Nat.zero_le _
 ·rw [if_neg a,if_neg (by omega)]
  exact bW _ (Nc h)
theorem Nd {X Y b:Nat} (c:0<Y) (h:Y<=b):qR X b<=qR X Y:=by
 unfold qR
 by_cases a:X=0
 ·rw [if_pos a,if_pos a];exact Nat.le_refl _
 ·rw [if_neg a,if_neg a];exact bW _ (Fr c h)
theorem Js {r:Nat} (h:r<9218868437227405312):pl r<=2046:=by unfold pl;omega
theorem qt {x y:Nat} (f:ag x) (c:ag y) (d:y % 9223372036854775808≠0):∃ r,floatBits .quo .f64 x y=some r/\RkW r (sgZ (sB x^^sB y) (qR (aV x) (aV y))):=by
 by_cases a:x % 9223372036854775808=0
 ·refine⟨_,pY a c d,?_⟩
  have e:aV x=0:=by unfold aV;rw [a];exact bp
  have b:qR (aV x) (aV y)=0:=by unfold qR;rw [if_pos e]
  rw [b];exact vM (by omega)
 ·have h:=Js f;have j:=Js c;have i:54+(mg (y % 9223372036854775808)).log2 - (mg (x % 9223372036854775808)).log2<=pl (x % 9223372036854775808)+2200 - pl (y % 9223372036854775808):=by
   have:=nF (y % 9223372036854775808);have k:(mg (y % 9223372036854775808)).log2<53:=(Nat.log2_lt (fL d)).2 (by omega)
   omega
  refine⟨_,jU f c a d rfl rfl rfl rfl i,?_⟩
  have g:aV x≠0:=by
   intro e;exact a (lG e)
  have b:qR (aV x) (aV y)=nearR (aN (mg (x % 9223372036854775808)) (mg (y % 9223372036854775808)) (pl (x % 9223372036854775808)+2200 - pl (y % 9223372036854775808))) (-1074+(pl (x % 9223372036854775808):Int) - (-1074+(pl (y % 9223372036854775808):Int)) - 1 - ((pl (x % 9223372036854775808)+2200 - pl (y % 9223372036854775808):Nat):Int)):=by
   unfold qR;rw [if_neg g];unfold aV V;rw [Bv (by omega)]
   congr 1
   omega
  rw [b];exact vM (mS _ _)
end Go.Proofs.YtfdddijdjpijbaaGreat
namespace Go.Proofs.YtfdddijdjpijbaaGreat
open Go.RowKit
theorem JF (k:Nat):kp (k+1)=kp k*max k 1:=rfl
theorem JG {k:Nat}:(k<=1->kp (k+1)=kp k)/\(1<k->kp (k+1)=kp k*k):=by
 rw [JF];refine⟨fun h=>?_,fun h=>?_⟩
 ·rw [show max k 1=1 by omega,Nat.mul_one]
 ·rw [show max k 1=k by omega]
theorem expL_len:expL.length=14:=by decide
theorem JH:FitL expL:=by unfold FitL;decide
theorem Fz (w:World) :
  Calls Tryz.prog 104 #[] w fun e K=>∃ v,e=.returned v/\OwnF K w.heap.size 41 uV v expL/\Below w.heap.size w K:=by
 obtain⟨i0,hi,O,Q,T⟩:=info_parts infoU
 go_enter Tryz.func104,Tryz.ntmps104
 go_wp2
 go_loopw [1,2,3] (fun v s i wr=>∃ k f:Nat,k<=14/\i=.int .i64 k/\s=.int .i64 f/\Hid (f=kp k)/\Hid (wr.ownsRow w.heap.size 41 1 v k (rowOf uV expL k))/\Hid (Below w.heap.size w wr)) (fun _ _ i _=>14 - (intOf i).toNat)
 case atStart=>exact⟨0,1,Nat.zero_le _,rfl,rfl,rfl,World.ownsRow_nil _ _ _ _,Below.refl _ _⟩
 case round=>
  obtain⟨k,f,hk,rfl,rfl,HF,g,V⟩:=hrel
  by_cases L:k<14
  ·have hx:k<expL.length:=by rw [expL_len];exact L
   have X:=hideS (take_next (f:=uV) hx);have N:=vP k (by omega)
   rw [<- HF.out] at N
   obtain⟨al,am⟩:=N;have D:=vP (k+1) (by omega)
   obtain⟨E,U⟩:∃ E,kp (k+1)=E:=⟨_,rfl⟩;rw [U] at D
   obtain⟨ad,ai⟩:=D;have F:=hideS U.symm;obtain⟨fz,z⟩:∃ fz:Int,(fi (E:Int):Int)=fz:=⟨_,rfl⟩;obtain⟨x,H⟩:∃ x,expL.getD k 0=x:=⟨_,rfl⟩;obtain⟨S,G⟩:∃ S:Int,(x:Int)=S:=⟨_,rfl⟩;have B:Hid (∀ w,Calls Tryz.prog 101 #[.int .i64 (E:Int)] w fun e K=>e=.returned (.int .u64 fz)/\Below w.heap.size w K):=fun w=>by
    have:=cY (E:Int) w (by omega) (by omega)
    rw [z] at this;exact this
   have C:Hid (∀ w,Calls Tryz.prog 144 #[.int .u64 4607182418800017408,.int .u64 fz] w fun e K=>e=.returned (.int .u64 S)/\Below w.heap.size w K):=fun w=>by
    have:=iD 4607182418800017408 (fi (E:Int)) 4607182418800017408 fz w rfl z.symm (by unfold U64;omega) (by rw [<- z];exact af (xt (a:=(E:Int)) rfl (by omega) (by omega)).2.2.2)
    have e:=DH k L;rw [U,H] at e
    rw [e,ao,G] at this;exact this
   rw [H] at X
   have P:=hideS G;clear hx U z H G;have R:=V.out.size;have p:=JG (k:=k);rw [<- F.out,<- HF.out] at p
   have Y:∀ (w1:World) (m:Below wr.heap.size wr w1),True:=fun _ _=>trivial
   clear Y;rcases (show k<=1\/1<k by omega) with I | I
   ·have A:=p.1 I;subst A;clear p
    go_wp2_with fail
    refine (B.out _).mono ?_
    rintro e w1 ⟨rfl,m⟩;have h:=hideS m;clear m
    go_wp2_with fail
    refine (C.out _).mono ?_
    rintro e W ⟨rfl,y⟩;have r:=hideS (h.out.trans (y.mono h.out.size));have t:=hideS (own_below g.out r.out);have n:=hideS (V.out.trans (r.out.mono R));have o:=n.out.size;clear y h g
    go_wp2_with (at_builtin;refine wpList_append_own _ rfl _ _ 33 rfl w.heap.size 41 i0 (.int .u64 0) 1 8 Tryz.underlying33 hi O Q T rfl (by decide) _ _ _ rfl (t.out.alloc _) ⟨W.heap.size,0,none⟩ 1 1 [.int .u64 S] rfl rfl ?c1 ?c2 ?c3 ?c4 ?c5 ?_)
    case c1=>
     intro j u l
     match j,l with
     | 0,l=>simp at l;subst l;simp [Addr.add]
    case c2=>intro u M;simp at M;subst M;rfl
    case c3=>unfold maxLen;omega
    case c4=>omega
    case c5=>simp;omega
    ·intro v' Z b c _;have d:=t.out.lt;have q:Below w.heap.size w Z:=(n.out.alloc o _).grown c (by simp;omega) (fun j l=>(d j l).1)
     rw [<- P.out,show Value.int IntKind.u64 (x:Int)=uV x from rfl,<- X.out] at b
     have HO:=hideS b;have J:=hideS q;clear b c d q;go_wp2
     go_roundw
     case rel=>exact⟨k+1,_,by omega,by simp,rfl,F,HO,J⟩
     case measure=>simp [intOf];omega
   ·have A:=p.2 I;have ab:(f:Int)*(k:Int)=(E:Int):=by rw [A,Int.natCast_mul]
    clear p A
    go_wp2_with fail
    refine (B.out _).mono ?_
    rintro e w1 ⟨rfl,m⟩;have h:=hideS m;clear m
    go_wp2_with fail
    refine (C.out _).mono ?_
    rintro e W ⟨rfl,y⟩;have r:=hideS (h.out.trans (y.mono h.out.size));have t:=hideS (own_below g.out r.out);have n:=hideS (V.out.trans (r.out.mono R));have o:=n.out.size;clear y h g
    go_wp2_with (at_builtin;refine wpList_append_own _ rfl _ _ 33 rfl w.heap.size 41 i0 (.int .u64 0) 1 8 Tryz.underlying33 hi O Q T rfl (by decide) _ _ _ rfl (t.out.alloc _) ⟨W.heap.size,0,none⟩ 1 1 [.int .u64 S] rfl rfl ?c1 ?c2 ?c3 ?c4 ?c5 ?_)
    case c1=>
     intro j u l
     match j,l with
     | 0,l=>simp at l;subst l;simp [Addr.add]
    case c2=>intro u M;simp at M;subst M;rfl
    case c3=>unfold maxLen;omega
    case c4=>omega
    case c5=>simp;omega
    ·intro v' Z b c _;have d:=t.out.lt;have q:Below w.heap.size w Z:=(n.out.alloc o _).grown c (by simp;omega) (fun j l=>(d j l).1)
     rw [<- P.out,show Value.int IntKind.u64 (x:Int)=uV x from rfl,<- X.out] at b
     have HO:=hideS b;have J:=hideS q;clear b c d q;go_wp2
     go_roundw
     case rel=>exact⟨k+1,_,by omega,by simp,rfl,F,HO,J⟩
     case measure=>simp [intOf];omega
  ·obtain rfl:k=14:=by omega
   go_wp2
   go_ret
   have h1:=g.out;rw [show (14:Nat)=expL.length from expL_len.symm,rowOf_all] at h1
   exact⟨_,rfl,⟨h1⟩,V.out⟩
theorem Nj (r:Nat):gz (r:Int)=(mg r:Int):=by
 unfold gz mg
 by_cases c:r<4503599627370496
 ·rw [if_pos c,if_pos (by omega)]
 ·rw [if_neg c,if_neg (by omega)];omega
theorem Nk (r:Nat):kE (r:Int)= -1074+(pl r:Int):=by
 unfold kE pl
 by_cases c:r<4503599627370496
 ·rw [if_pos (by omega)];omega
 ·rw [if_neg (by omega)];omega
theorem yA {p:Nat} {neg:Bool} {N:Nat} {e:Int} (h:OfR p neg N e) (d:p<18446744073709551616) (hn:ag p) (c:N≠0):az (p:Int)=sg neg N/\aP (p:Int)=e/\neg=sB p:=by
 obtain⟨g,j⟩:=h.mag c;have a:=eo p;unfold ag at hn
 have b:ay (p:Int)=true:=by unfold ay;rw [a];simp;omega
 have f:p % 9223372036854775808≠0:=by
  intro i;rw [i] at g;exact c (by rw [g];decide)
 refine⟨?_,?_,h.sgn c⟩
 ·unfold az;rw [b,if_pos rfl,a,Nj,<- g,gh d,<- h.sgn c]
  rfl
 ·unfold aP;rw [b,a,Nk,<- j,show decide (((p % 9223372036854775808:Nat):Int)≠0)=true by simpa using fun h=>f (by omega)]
  rfl
theorem Nl {p:Nat} {neg:Bool} {N:Nat} {e k:Int} (h:OfR p neg N e) (c:p<18446744073709551616) (hn:ag p) (d:0<=vI p):bN neg N (e+k) false=(aI (az p) (aP p+k):Int):=by
 by_cases b:N=0
 ·have f:p % 9223372036854775808=0:=by
   have:=h.val;rw [b,Nat.zero_mul] at this
   exact lG this.symm
  have g:az (p:Int)=0:=by
   unfold az;rw [eo,f];unfold gz
   split
   ·split<;>simp
   ·rfl
  rw [g,b]
  rfl
 ·obtain⟨l,i,j⟩:=yA h c hn b;have a:neg=false:=by
   cases a:neg with
   | false=>rfl
   | true=>
    exfalso
    have m:aV p≠0:=by
     rw [<- h.val];have:=Nat.mul_pos (show 0<N by omega) (Nat.two_pow_pos (e+1074).toNat);omega
    rw [xv,<- j,a] at d
    unfold sg at d;simp at d;omega
  rw [l,i,a,fJ false _ b,if_neg (by decide)]
  unfold sg aI;simp only [Bool.false_eq_true,if_false];rw [if_neg (by omega),if_neg (by omega),Int.natAbs_natCast];omega
theorem BD (u:Int) (w:World) (h:U64 u) (hn:ah u=true) :
  Calls Tryz.prog 64 #[.int .u64 u] w fun e a=>e=.returned (.int .u64 9221120237041090561)/\Below w.heap.size w a:=by
 have H:=hideS (aj u w h);rw [hn] at H
 clear h hn
 go_enter Tryz.func64,Tryz.ntmps64
 go_wp2_with fail
 refine (turned H.out).mono ?_
 rintro e a ⟨rfl,rfl⟩
 go_wp2_with fail
 go_ret
 exact⟨rfl,Below.refl _ _⟩
theorem dW (n z:Int) (w:World) (b: -9223372036854775808<=n) (d:n<=9223372036854775807) (a:(fi n:Int)=z) :
  Calls Tryz.prog 101 #[.int .i64 n] w fun e c=>e=.returned (.int .u64 z)/\Below w.heap.size w c:=by
 rw [<- a];exact cY n w b d
theorem FA (u:Int) (w:World) (h:U64 u) (hn:ah u=false) (c:decide (ae u<ae 4649456441864749056)=false) :
  Calls Tryz.prog 64 #[.int .u64 u] w fun e a=>e=.returned (.int .u64 9218868437227405312)/\Below w.heap.size w a:=by
 have H:=hideS (aj u w h);have g:=hideS fun w=>dW 710 4649456441864749056 w (by omega) (by omega) (by rw [Ni];rfl)
 have d:=hideS fun w=>gP u 4649456441864749056 false w h (by unfold U64;omega) hn (by decide) c
 rw [hn] at H
 clear h hn c
 go_enter Tryz.func64,Tryz.ntmps64
 go_wp2_with fail
 refine (turned H.out).mono ?_
 rintro e a ⟨rfl,rfl⟩
 go_wp2_with fail
 refine (g.out _).mono ?_
 rintro e i ⟨rfl,b⟩;have f:=hideS b;clear b
 go_wp2_with fail
 refine (d.out _).mono ?_
 rintro e a ⟨rfl,rfl⟩
 go_wp2_with fail
 go_ret
 exact⟨rfl,f.out⟩
theorem FB (u:Int) (w:World) (h:U64 u) (hn:ah u=false) (i:decide (ae u<ae 4649456441864749056)=true) (b:decide (ae 13873145138068324352<ae u)=false) :
  Calls Tryz.prog 64 #[.int .u64 u] w fun e c=>e=.returned (.int .u64 0)/\Below w.heap.size w c:=by
 have H:=hideS (aj u w h);have l:=hideS fun w=>dW 710 4649456441864749056 w (by omega) (by omega) (by rw [Ni];rfl)
 have k:=hideS fun w=>gP u 4649456441864749056 true w h (by unfold U64;omega) hn (by decide) i
 have d:=hideS fun w=>dW (-746) 13873145138068324352 w (by omega) (by omega) (by rw [PB];rfl)
 have g:=hideS fun w=>gP 13873145138068324352 u false w (by unfold U64;omega) h (by decide) hn b
 rw [hn] at H
 clear h hn i b
 go_enter Tryz.func64,Tryz.ntmps64
 go_wp2_with fail
 refine (turned H.out).mono ?_
 rintro e c ⟨rfl,rfl⟩
 go_wp2_with fail
 refine (l.out _).mono ?_
 rintro e m ⟨rfl,a⟩;have j:=hideS a;clear a
 go_wp2_with fail
 refine (k.out _).mono ?_
 rintro e c ⟨rfl,rfl⟩
 go_wp2_with fail
 refine (d.out _).mono ?_
 rintro e n ⟨rfl,a⟩;have f:=hideS (j.out.trans (a.mono j.out.size));clear a
 go_wp2_with fail
 refine (g.out _).mono ?_
 rintro e c ⟨rfl,rfl⟩
 go_wp2_with fail
 go_ret
 exact⟨rfl,f.out⟩
theorem gB {op:BinOp} (b:op=.add\/op=.sub\/op=.mul\/op=.quo) {x y r:Nat} {z:Int} (h:floatBits op .f64 x y=some r) (a:z=(r:Int)):U64 z:=by rw [a];exact af (cR b h)
theorem nf {x y r:Nat} {u v z:Int} (a:u=(x:Int)) (d:v=(y:Int)) (h:U64 u) (f:U64 v) (g:floatBits .mul .f64 x y=some r) (b:z=(r:Int)) (w:World) :
  Calls Tryz.prog 63 #[.int .u64 u,.int .u64 v] w fun e c=>e=.returned (.int .u64 z)/\Below w.heap.size w c:=by
 have:=cX x y u v w a d h f;rw [g,ao,<- b] at this;exact this
theorem JI {x y r:Nat} {u v z:Int} (a:u=(x:Int)) (d:v=(y:Int)) (h:U64 u) (f:U64 v) (g:floatBits .add .f64 x y=some r) (b:z=(r:Int)) (w:World) :
  Calls Tryz.prog 50 #[.int .u64 u,.int .u64 v] w fun e c=>e=.returned (.int .u64 z)/\Below w.heap.size w c:=by
 have:=fM x y u v w a d h f;rw [g,ao,<- b] at this;exact this
theorem BE {x y r:Nat} {u v z:Int} (a:u=(x:Int)) (d:v=(y:Int)) (h:U64 u) (f:U64 v) (g:floatBits .sub .f64 x y=some r) (b:z=(r:Int)) (w:World) :
  Calls Tryz.prog 35 #[.int .u64 u,.int .u64 v] w fun e c=>e=.returned (.int .u64 z)/\Below w.heap.size w c:=by
 have:=dR x y u v w a d h f;rw [g,ao,<- b] at this;exact this
theorem BF (x y t hi lo d r p:Nat) (u k f:Int) (K:Nat) (w:World) (hu:u=(x:Int)) (h:U64 u) (hn:ah u=false) (hl:decide (ae u<ae 4649456441864749056)=true) (P:decide (ae 13873145138068324352<ae u)=true)
  (q1:floatBits .mul .f64 x 4609176140021203710=some y) (q2:floatBits .add .f64 y 4602678819172646912=some t) (tn:ag t) (hK:K=1074) (f1:k*((2^K:Nat):Int)<=vI t) (f2:vI t<(k+1)*((2^K:Nat):Int)) (k1: -2000<=k) (k2:k<=2000)
  (q3:floatBits .mul .f64 (fi k) 4604418534311723008=some hi) (q4:floatBits .mul .f64 (fi k) 4461442080421002358=some lo) (q5:floatBits .sub .f64 x hi=some d) (q6:floatBits .sub .f64 d lo=some r) (q7:bj expL r=some p) (pn:ag p) (E:p<18446744073709551616) (pv:0<=vI p) (q:(aI (az p) (aP p+k):Int)=f) :
  Calls Tryz.prog 64 #[.int .u64 u] w fun e m=>e=.returned (.int .u64 f)/\Below w.heap.size w m:=by
 have H:=hideS (aj u w h);have HI:=hideS fun w=>dW 710 4649456441864749056 w (by omega) (by omega) (by rw [Ni];rfl)
 have HL:=hideS fun w=>gP u 4649456441864749056 true w h (by unfold U64;omega) hn (by decide) hl
 have ai:=hideS fun w=>dW (-746) 13873145138068324352 w (by omega) (by omega) (by rw [PB];rfl)
 have ab:=hideS fun w=>gP 13873145138068324352 u true w (by unfold U64;omega) h (by decide) hn P
 rw [hn] at H
 obtain⟨yi,W⟩:∃ yi:Int,yi=(y:Int):=⟨_,rfl⟩;obtain⟨U,Y⟩:∃ U:Int,U=(t:Int):=⟨_,rfl⟩;obtain⟨fz,M⟩:∃ fz:Int,fz=(fi k:Int):=⟨_,rfl⟩;obtain⟨I,j⟩:∃ I:Int,I=(hi:Int):=⟨_,rfl⟩;obtain⟨D,g⟩:∃ D:Int,D=(lo:Int):=⟨_,rfl⟩;obtain⟨di,X⟩:∃ di:Int,di=(d:Int):=⟨_,rfl⟩;obtain⟨O,R⟩:∃ O:Int,O=(r:Int):=⟨_,rfl⟩;obtain⟨V,S⟩:∃ V:Int,V=(p:Int):=⟨_,rfl⟩;have uf:U64 fz:=by rw [M];exact af (xt (a:=k) rfl (by omega) (by omega)).2.2.2
 have M1:=hideS fun w=>nf (z:=yi) hu (v:=4609176140021203710) rfl h (by unfold U64;omega) q1 W w
 have A1:=hideS fun w=>JI (z:=U) W (v:=4602678819172646912) rfl (gB (by simp) q1 W) (by unfold U64;omega) q2 Y w
 have FL:=hideS fun w=>xD t U k K w Y (gB (by simp) q2 Y) tn hK f1 f2 k1 k2
 have IK:=hideS fun w=>dW k fz w (by omega) (by omega) M.symm
 have M2:=hideS fun w=>nf (z:=I) M (v:=4604418534311723008) rfl uf (by unfold U64;omega) q3 j w
 have S1:=hideS fun w=>BE (z:=di) hu j h (gB (by simp) q3 j) q5 X w
 have M3:=hideS fun w=>nf (z:=D) M (v:=4461442080421002358) rfl uf (by unfold U64;omega) q4 g w
 have S2:=hideS fun w=>BE (z:=O) X g (gB (by simp) q5 X) (gB (by simp) q4 g) q6 R w
 have HH:Hid (∀ B v w,OwnF w B 41 uV v expL->Calls Tryz.prog 103 #[v,.int .u64 O] w fun e m=>e=.returned (.int .u64 V)/\Below w.heap.size w m):=fun B v w T=>by
  have:=kv B 14 r v O expL w T JH R (gB (by simp) q6 R) expL_len (by decide)
  rw [q7,ao,<- S] at this;exact this
 have HO:=hideS fun w=>eL p V w S (by rw [S];exact af E) pn
 have o:Hid (∀ neg N e,OfR p neg N e->bN neg N (e+k) false=f/\N<9007199254740992/\-1074<=e/\e<=971):=fun neg N e Z=>⟨by rw [<- q];exact Nl Z E pn pv,Z.lt,Z.lo,Z.hi⟩
 clear h hn hl P hu q1 q2 tn hK f1 f2 q3 q4 q5 q6 q7 pn E pv q W Y M j g X R S uf
 go_enter Tryz.func64,Tryz.ntmps64
 go_wp2_with fail
 refine (turned H.out).mono ?_
 rintro e m ⟨rfl,rfl⟩
 go_wp2_with fail
 refine (HI.out _).mono ?_
 rintro e w1 ⟨rfl,b⟩;have B1:=hideS b;clear b
 go_wp2_with fail
 refine (HL.out _).mono ?_
 rintro e m ⟨rfl,rfl⟩
 go_wp2_with fail
 refine (ai.out _).mono ?_
 rintro e w2 ⟨rfl,b⟩;have B2:=hideS (B1.out.trans (b.mono B1.out.size));clear b B1
 go_wp2_with fail
 refine (ab.out _).mono ?_
 rintro e m ⟨rfl,rfl⟩
 go_wp2_with fail
 refine (M1.out _).mono ?_
 rintro e w3 ⟨rfl,b⟩;have B3:=hideS (B2.out.trans (b.mono B2.out.size));clear b B2
 go_wp2_with fail
 refine (A1.out _).mono ?_
 rintro e w4 ⟨rfl,b⟩;have B4:=hideS (B3.out.trans (b.mono B3.out.size));clear b B3
 go_wp2_with fail
 refine (FL.out _).mono ?_
 rintro e w5 ⟨rfl,b⟩;have B5:=hideS (B4.out.trans (b.mono B4.out.size));clear b B4
 go_wp2_with fail
 refine (IK.out _).mono ?_
 rintro e w6 ⟨rfl,b⟩;have B6:=hideS (B5.out.trans (b.mono B5.out.size));clear b B5
 go_wp2_with fail
 refine (M2.out _).mono ?_
 rintro e w7 ⟨rfl,b⟩;have B7:=hideS (B6.out.trans (b.mono B6.out.size));clear b B6
 go_wp2_with fail
 refine (S1.out _).mono ?_
 rintro e w8 ⟨rfl,b⟩;have B8:=hideS (B7.out.trans (b.mono B7.out.size));clear b B7
 go_wp2_with fail
 refine (M3.out _).mono ?_
 rintro e w9 ⟨rfl,b⟩;have B9:=hideS (B8.out.trans (b.mono B8.out.size));clear b B8
 go_wp2_with fail
 refine (S2.out _).mono ?_
 rintro e am ⟨rfl,b⟩;have C:=hideS (B9.out.trans (b.mono B9.out.size));clear b B9
 go_wp2_with fail
 refine (Fz _).mono ?_
 rintro e bb ⟨v,rfl,T,b⟩;have F:=hideS (C.out.trans (b.mono C.out.size));have n:=hideS (HH.out _ _ _ T);clear b C T HH
 go_wp2_with fail
 refine n.out.mono ?_
 rintro e bc ⟨rfl,b⟩;have L:=hideS (F.out.trans (b.mono F.out.size));clear b F n
 go_wp2_with fail
 refine (HO.out _).mono ?_
 rintro e i ⟨neg,vx,N,s,rfl,A,hX,b⟩;obtain⟨Q,l,c,rfl⟩:=A.shape;obtain⟨e1,e2,e3,e4⟩:=o.out neg N s hX;have G:=hideS (L.out.trans (b.mono L.out.size));have ad:Hid (Calls Tryz.prog 77 #[.agg #[.bool neg,.slice Q l c,.int .i64 (s+k)]] (boxN i neg (.slice Q l c) (s+k)) fun x m=>x=.returned (.int .u64 f)/\Below (boxN i neg (.slice Q l c) (s+k)).heap.size (boxN i neg (.slice Q l c) (s+k)) m):=by
  rw [<- e1];exact gJ neg _ (s+k) N _ (A.below (aD _ _ _ _)) (by have:=dw e2;omega) (by omega) (by omega)
 have J:=hideS (G.out.trans ((aD i neg (.slice Q l c) (s+k)).mono G.out.size));clear b L A hX e1 e2 o G
 go_wp2_with fail
 refine ad.out.mono ?_
 rintro e ba ⟨rfl,b⟩;have al:=hideS (J.out.trans (b.mono J.out.size));clear b J
 go_wp2_with fail
 go_ret
 exact⟨rfl,al.out⟩
theorem QP {o:Option Nat} {r:Nat} (h:Ag o r) (a:∀ q,o=some q->q<18446744073709551616):r<18446744073709551616:=by
 cases o with
 | none=>exact (eV h).2
 | some q=>rw [cz h];exact a q rfl
structure Both (f g:Nat) (x:Nat) (u:Int) (y:Nat) (z:Int):Prop where
 prog:∀ w,Calls Tryz.prog f #[.float .f64 x] w fun e w'=>e=.returned (.float .f64 y)/\Below w.heap.size w w'
 doc:∀ w,Calls Tryz.prog g #[.int .u64 u] w fun e w'=>e=.returned (.int .u64 z)/\Below w.heap.size w w'
 same:fA (y:Int) z=true
 uy:U64 (y:Int)
 uz:U64 z
theorem qM {f:Nat} {args:Array Value} {v:Value} {w:World} (h:Calls Tryz.prog f args w fun e c=>e=.returned v/\c=w):Calls Tryz.prog f args w fun e c=>e=.returned v/\Below w.heap.size w c:=
 h.mono fun _ _ ⟨a,b⟩=>⟨a,by rw [b];exact Below.refl _ _⟩
theorem FD {y:Nat} {z:Int} (h:z=(y:Int)):fA (y:Int) z=true:=by rw [h];exact fB _
theorem yC (m e:Int):aI m e<18446744073709551616:=by
 unfold aI;have a:=jh m.natAbs e
 split
 ·decide
 ·split<;>omega
theorem FF (x:Nat) (u:Int) (e:u=(x:Int)) (h:U64 x):∃ y z,Both 54 64 x u y z/\(ah (x:Int)=true->z=9221120237041090561)/\(ah (x:Int)=false->y<=9218868437227405312/\z=(y:Int)):=by
 have c:x<18446744073709551616:=by have:=h.2;omega
 have v:U64 u:=by rw [e];exact h
 cases b:ah (x:Int) with
 | true=>exact⟨x,9221120237041090561,⟨fun w=>qM (Ng x w h b),fun w=>BD u w v (by rw [e];exact b),Ei b pV,h,by unfold U64;omega⟩,fun _=>rfl,fun a=>by cases a⟩
 | false=>
  have i:ah u=false:=by rw [e];exact b
  have Y:U64 ((4649456441864749056:Nat):Int):=by unfold U64;omega
  have u2:U64 ((13873145138068324352:Nat):Int):=by unfold U64;omega
  have W:ah ((4649456441864749056:Nat):Int)=false:=by decide+kernel
  have n2:ah ((13873145138068324352:Nat):Int)=false:=by decide+kernel
  have H:=lO h Y b W;have F:=eU h Y b W;have G:=jK h u2 b n2;have I:=eU h u2 b n2;have A:ae ((4649456441864749056:Nat):Int)=4649456441864749056:=by decide+kernel
  have q:ae ((13873145138068324352:Nat):Int)= -4649773101213548544:=by decide+kernel
  have o:ae (4649456441864749056:Int)=4649456441864749056:=by decide+kernel
  have l:ae (13873145138068324352:Int)= -4649773101213548544:=by decide+kernel
  rw [A] at H F
  rw [q] at G I
  by_cases c1:4649456441864749056<=ae (x:Int)
  ·refine⟨9218868437227405312,9218868437227405312,⟨fun w=>qM (Py x _ _ w h b H F ?_),fun w=>FA u w v i ?_,rfl,by unfold U64;omega,by unfold U64;omega⟩,fun a=>(by cases a),fun _=>⟨Nat.le_refl _,rfl⟩⟩
   ·simp only [Bool.or_eq_true,decide_eq_true_eq];omega
   ·rw [o,e,decide_eq_false_iff_not];omega
  have N:(FloatKind.f64.format.order x 4649456441864749056==some .gt)=false:=by rw [H,decide_eq_false_iff_not];omega
  have f2:(FloatKind.f64.format.order x 4649456441864749056==some .eq)=false:=by rw [F,decide_eq_false_iff_not];omega
  have X:decide (ae u<ae 4649456441864749056)=true:=by rw [o,e,decide_eq_true_eq];omega
  by_cases c2:ae (x:Int)<=-4649773101213548544
  ·refine⟨0,0,⟨fun w=>qM (Pz x _ _ w h b N f2 G I ?_),fun w=>FB u w v i X ?_,rfl,by unfold U64;omega,by unfold U64;omega⟩,fun a=>(by cases a),fun _=>⟨Nat.zero_le _,rfl⟩⟩
   ·simp only [Bool.or_eq_true,decide_eq_true_eq];omega
   ·rw [l,e,decide_eq_false_iff_not];omega
  have f3:(FloatKind.f64.format.order x 13873145138068324352==some .lt)=false:=by rw [G,decide_eq_false_iff_not];omega
  have f4:(FloatKind.f64.format.order x 13873145138068324352==some .eq)=false:=by rw [I,decide_eq_false_iff_not];omega
  have d2:decide (ae 13873145138068324352<ae u)=true:=by rw [l,e,decide_eq_true_eq];omega
  obtain⟨K,g,n⟩:=QO;have f:ag x:=by
   have hl:=fj b;rw [<- cb c b] at c1 c2
   unfold ag;unfold sgn at c1 c2
   generalize x % 9223372036854775808=r at *
   generalize (x / 9223372036854775808 % 2==1)=s at c1 c2
   cases s<;>simp only [Bool.false_eq_true,if_true,if_false] at c1 c2<;>omega
  obtain⟨U,Q,T⟩:=lT n (m:=710) (by decide) (by decide)
  obtain⟨O,R,J⟩:=lT n (m:=-746) (by decide) (by decide)
  rw [Ni] at U Q T
  rw [PB] at O R J
  have b1:=qJ f Q c T (by rw [A];omega)
  have b2:=qJ R f J c (by rw [q];omega)
  rw [U] at b1
  rw [O] at b2
  obtain⟨y,t,hi,lo,d,r,k,Z,q2,S,q3,E,C,B,D,q4,P,q6,q7,rn,_,A,q⟩:=Fw n f (by omega) (by omega)
  obtain⟨p,M,L,j,V⟩:=JC n rn A q;obtain⟨s1,s2,s3,s4⟩:=PA L j V;refine⟨aI (az p) (aP p+k),(aI (az p) (aP p+k):Int),⟨fun w=>lQ x y t (fi k) hi lo d r p k w h b N f2 f3 f4 Z q2 (fun w=>lN t _ w S q3) q4 P q6 q7 M (af j) (JE B D) ⟨B,D⟩ ⟨s3,s4⟩ (Nh s1 s2),fun w=>BF x y t hi lo d r p u k _ K w e v i X d2 Z q2 S n.k E C B D q4 P q6 q7 M L j V rfl,FD rfl,af (yC _ _),af (yC _ _)⟩,fun a=>(by cases a),fun _=>⟨JD s1,rfl⟩⟩
theorem JJ {cs:List Nat} {x:Nat} (b:ah (x:Int)=true) (c:2<=cs.length):bj cs x=none:=by
 obtain⟨k,a⟩:∃ k,cs.length - 1=k+1:=⟨cs.length - 2,by omega⟩
 unfold bj;rw [if_neg (by omega),a]
 show gj x (hornAt cs x k) _=none
 unfold gj;cases hornAt cs x k with
 | none=>rfl
 | some p=>
  show (floatBits .mul .f64 p x).bind _=none
  rw [fu b];rfl
theorem DJ {cs:List Nat} {z:Option Nat} {x:Nat} (h:Ag z x) (a:2<=cs.length):(z.bind fun z=>bj cs z)=bj cs x:=by
 cases z with
 | none=>rw [JJ (eV h).1 a];rfl
 | some r=>rw [cz h];rfl
def lnO (a b hi lo:Nat):Option Nat:=
 opO .add (some hi) (opO .add (opO .mul (opO .mul (some 4611686018427387904) (floatBits .quo .f64 a b)) ((opO .mul (floatBits .quo .f64 a b) (floatBits .quo .f64 a b)).bind fun z=>bj lnL z)) (some lo))
theorem lnL_len:lnL.length=11:=by decide
theorem JK {a b hi lo s d z h v c r:Nat} (e:Ag (floatBits .quo .f64 a b) s) (q:Ag (floatBits .mul .f64 4611686018427387904 s) d) (n:Ag (floatBits .mul .f64 s s) z) (u:Ag (bj lnL z) h) (i:Ag (floatBits .mul .f64 d h) v) (g:Ag (floatBits .add .f64 v lo) c) (f:Ag (floatBits .add .f64 hi c) r):Ag (lnO a b hi lo) r:=by
 unfold lnO;have k:Ag (some 4611686018427387904) 4611686018427387904:=rfl;have m:Ag (opO .mul (some 4611686018427387904) (floatBits .quo .f64 a b)) d:=by rw [jp k e];exact q
 have t:Ag (opO .mul (floatBits .quo .f64 a b) (floatBits .quo .f64 a b)) z:=by rw [jp e e];exact n
 have p:Ag ((opO .mul (floatBits .quo .f64 a b) (floatBits .quo .f64 a b)).bind fun z=>bj lnL z) h:=by rw [DJ t (by rw [lnL_len];decide)];exact u
 have l:Ag (opO .mul (opO .mul (some 4611686018427387904) (floatBits .quo .f64 a b)) ((opO .mul (floatBits .quo .f64 a b) (floatBits .quo .f64 a b)).bind fun z=>bj lnL z)) v:=by rw [jp m p];exact i
 have j:=jp (op:=.add) (o':=some lo) (c:=lo) l rfl;rw [<- j] at g
 have w:=jp (op:=.add) (o:=some hi) (a:=hi) rfl g;rw [<- w] at f
 exact f
theorem QQ (x m a b u hi lo:Nat) (k:Int) (w:World) (h:U64 x) (hn:ah x=false) (hl:(FloatKind.f64.format.order x 0==some .lt)=false) (he:(FloatKind.f64.format.order x 0==some .eq)=false) (C:(FloatKind.f64.format.order x 9218868437227405311==some .gt)=false)
  (hA:Hid (∀ w,Calls Tryz.prog 229 #[.float .f64 x] w fun r d=>r=.returned (.tuple #[.float .f64 m,.int .i64 k])/\∃ q,d=w.drewN q))
  (q1:floatBits .sub .f64 m 4607182418800017408=some a) (Q:floatBits .add .f64 m 4607182418800017408=some b) (t:fi k=u) (F:floatBits .mul .f64 u 4604418534311723008=some hi) (I:floatBits .mul .f64 u 4461442080421002358=some lo) :
  Calls Tryz.prog 223 #[.float .f64 x] w fun e d=>∃ r,e=.returned (.float .f64 r)/\Ag (lnO a b hi lo) r/\Below w.heap.size w d:=by
 have H:=hideS (aZ x w h);rw [hn] at H
 have T:=hideS (nh x false w C);have r1:=fun w=>run_float_arith (P:=Tryz.prog) w .sub 27 .f64 _ _ _ q1
 have r2:=fun w=>run_float_arith (P:=Tryz.prog) w .add 27 .f64 _ _ _ Q
 have ab:=(bF k).trans t;have HL:Hid (∀ w,Calls Tryz.prog 82 #[.float .f64 u] w fun e d=>e=.returned (.tuple #[.float .f64 hi,.float .f64 lo])/\d=w):=fun w=>DI u hi lo w F I
 clear h hn q1 Q F I C t
 go_enter Tryz.func223,Tryz.ntmps223
 go_wp2_with fail
 refine (turned H.out).mono ?_
 rintro e d ⟨rfl,rfl⟩;clear H
 go_wp2_with fail
 refine (turned T.out).mono ?_
 rintro e d ⟨rfl,rfl⟩;clear T
 go_wp2_with fail
 refine (hA.out _).mono ?_
 rintro e d ⟨rfl,q,p⟩;have l:Hid (Below w.heap.size w d):=by rw [p];exact⟨rfl,rfl,rfl,Nat.le_refl _,fun _ _=>rfl⟩
 clear p;obtain⟨s,⟨q3,r3⟩,V⟩:=dm .quo (by simp) 27 a b d
 obtain⟨s2,⟨q4,r4⟩,U⟩:=dm .mul (by simp) 27 4611686018427387904 s (d.drewN q3)
 have K:=hideS V;have R:=hideS U;clear V U
 go_wp2_with fail
 obtain⟨n,f⟩:∃ n,n=d.drewN (q3+q4):=⟨_,rfl⟩;rw [<- f];have J:Hid (Below w.heap.size w n):=by rw [f];exact⟨l.out.os,l.out.tape,l.out.output,l.out.size,l.out.block⟩
 clear f r3 r4 l;have Z:=hideS (yt n);refine Z.out.mono ?_
 rintro e A ⟨rfl,M,hb⟩;have i:Hid (Below w.heap.size w A):=J.out.trans (hb.mono J.out.size);obtain⟨z,⟨G,r5⟩,O⟩:=dm .mul (by simp) 27 s s A
 have HH:Hid (Calls Tryz.prog 83 #[.slice (some ⟨n.heap.size,0,none⟩) 11 11,.float .f64 z] (A.drewN G) fun e D=>∃ X,e=.returned (.float .f64 X)/\Ag (bj lnL z) X/\∃ q,D=(A.drewN G).drewN q):=pT _ n.heap.size 0 11 z 11 lnL (A.drewN G) (M.below ⟨rfl,rfl,rfl,Nat.le_refl _,fun _ _=>rfl⟩) rfl (by decide)
 have G5:=hideS O;clear M hb Z J O
 go_wp2_with fail
 refine HH.out.mono ?_
 rintro e D ⟨h',rfl,B,q6,y⟩;have j:Hid (Below w.heap.size w D):=by rw [y];exact⟨i.out.os,i.out.tape,i.out.output,i.out.size,i.out.block⟩
 obtain⟨v,⟨q7,r7⟩,W⟩:=dm .mul (by simp) 27 s2 h' D
 have S:=hideS B;have Y:=hideS W;clear B W y HH i r5
 go_wp2_with fail
 obtain⟨o,g⟩:∃ o,o=D.drewN q7:=⟨_,rfl⟩;rw [<- g];have E:Hid (Below w.heap.size w o):=by rw [g];exact⟨j.out.os,j.out.tape,j.out.output,j.out.size,j.out.block⟩
 clear g r7 j;refine (turned (HL.out _)).mono ?_
 rintro e d ⟨rfl,rfl⟩;obtain⟨c,⟨F,r8⟩,N⟩:=dm .add (by simp) 27 v lo o
 obtain⟨r,⟨I,r9⟩,L⟩:=dm .add (by simp) 27 hi c (o.drewN F)
 have GE:=hideS (JK K.out R.out G5.out S.out Y.out N L);clear N L K R G5 S Y
 go_wp2_with fail
 go_ret
 exact⟨r,rfl,GE.out,⟨E.out.os,E.out.tape,E.out.output,E.out.size,E.out.block⟩⟩
def oneB (N:Nat):Nat:=4602678819172646912+N*2^(52 - N.log2)
theorem qN {N:Nat} (c:N≠0) (h:N<9007199254740992):4503599627370496<=N*2^(52 - N.log2)/\N*2^(52 - N.log2)<9007199254740992:=by
 have d:N.log2<=52:=by have:=(Nat.log2_lt c).2 (show N<2^53 from h);omega
 have a:=Nat.log2_self_le c;have b:N<2^(N.log2+1):=Nat.lt_log2_self;constructor
 ·have:=Nat.mul_le_mul_right (2^(52 - N.log2)) a;rw [<- Nat.pow_add,show N.log2+(52 - N.log2)=52 by omega] at this;exact this
 ·have:=Nat.mul_lt_mul_of_pos_right b (Nat.two_pow_pos (52 - N.log2));rw [<- Nat.pow_add,show N.log2+1+(52 - N.log2)=53 by omega] at this;exact this
theorem tQ {N:Nat} (a:N≠0) (h:N<9007199254740992):nearR N (-(N.log2:Int))=oneB N:=by
 have f:N.log2<=52:=by have:=(Nat.log2_lt a).2 (show N<2^53 from h);omega
 obtain⟨d,g⟩:=qN a h;have e:=bf a (52 - N.log2) (-(N.log2:Int));rw [show -(N.log2:Int) - ((52 - N.log2:Nat):Int)= -52 by omega] at e
 rw [<- e];unfold oneB;generalize N*2^(52 - N.log2)=k at *
 have c:mg (4602678819172646912+k)=k:=by unfold mg;rw [if_neg (by omega)];omega
 have b:pl (4602678819172646912+k)=1022:=by unfold pl;omega
 have:=pB (r:=4602678819172646912+k) (by omega) (by omega)
 rw [c,b] at this
 exact this
theorem lU {N:Nat} (a:N≠0) (h:N<9007199254740992):4607182418800017408<=oneB N/\oneB N<4611686018427387904:=by
 obtain⟨b,c⟩:=qN a h;unfold oneB;omega
theorem JL {r:Nat} (h:9007199254740992<=r):V r=2*V (r - 4503599627370496)/\mg (r - 4503599627370496)=mg r/\pl r=pl (r - 4503599627370496)+1:=by
 have b:mg (r - 4503599627370496)=mg r:=by unfold mg;rw [if_neg (by omega),if_neg (by omega)];omega
 have a:pl r=pl (r - 4503599627370496)+1:=by unfold pl;omega
 refine⟨?_,b,a⟩
 unfold V;rw [b,a,Nat.pow_succ,<- Nat.mul_assoc,Nat.mul_comm]
theorem BG {v K:Nat} (h:v≠0):v*2^K≠0:=Nat.mul_ne_zero h (Nat.pos_iff_ne_zero.1 (Nat.two_pow_pos K))
theorem tR (x:Nat):wrd (false^^false) x=x:=rfl
theorem JM {r:Nat} (h:9007199254740992<=r) (n:r<9218868437227405312):floatBits .mul .f64 r 4602678819172646912=some (r - 4503599627370496):=by
 obtain⟨K,m⟩:∃ K:Nat,K=1074:=⟨_,rfl⟩;have g:P2 (-1)=4602678819172646912:=by decide+kernel
 obtain⟨c,b,_⟩:=Ix (k:=-1) (by omega) (by omega)
 have a:=QD (k:=-1) (by omega) (by omega)
 rw [g] at c b a
 have i:ag r:=by unfold ag;omega
 rw [gg i c,b,a];refine congrArg some ?_
 have d:sB r=false:=by unfold sB;rw [show r / 9223372036854775808=0 by omega];rfl
 have l:aV r=V r:=by unfold aV;rw [Nat.mod_eq_of_lt (by omega)]
 have f:V r*2^((-1:Int)+1074).toNat=V (r - 4503599627370496)*2^K:=by
  rw [(JL h).1,show ((-1:Int)+1074).toNat=K - 1 by omega,show K=(K - 1)+1 by omega,Nat.pow_succ,Nat.add_sub_cancel,Nat.mul_comm 2,Nat.mul_assoc,Nat.mul_comm 2]
 rw [l,f,d];unfold mulR;have j:V (r - 4503599627370496)≠0:=fun e=>by have:=lG e;omega
 rw [if_neg (BG j)];have:=jT (r:=r - 4503599627370496) (by omega) K
 rw [show (-1074 - (K:Int))= -2148 by omega] at this
 rw [this];exact tR _
theorem JN {r:Nat} (h:9007199254740992<=r) (t:r<9218868437227405312):floatBits .quo .f64 r 4611686018427387904=some (r - 4503599627370496):=by
 have q:ag r:=by unfold ag;omega
 have g:r % 9223372036854775808=r:=Nat.mod_eq_of_lt (by omega)
 have a:mg r≠0:=fL (by omega)
 have c:4503599627370496<=mg r:=Da (by omega)
 have j:52<=(mg r).log2:=(Nat.le_log2 a).2 c;have m:mg (4611686018427387904 % 9223372036854775808)=4503599627370496:=by decide
 have b:pl (4611686018427387904 % 9223372036854775808)=1023:=by decide
 have f:Nat.log2 4503599627370496=52:=by decide
 have e:=jU (x:=r) (y:=4611686018427387904) q (by unfold ag;decide) (by omega) (by decide) (X:=mg r) (Y:=4503599627370496) (ex:=-1074+(pl r:Int)) (ey:=-51) (by rw [g]) m.symm (by rw [g]) (by rw [b];rfl) (k:=54) (by rw [f];omega)
 rw [e];refine congrArg some ?_
 have o:aN (mg r) 4503599627370496 54=mg r*2^3:=by
  unfold aN;rw [show (2:Nat)^54=4*4503599627370496 from rfl,<- Nat.mul_assoc,Nat.mul_div_cancel _ (by decide),Nat.mul_mod_left,if_pos rfl];omega
 have p:sB r=false:=by unfold sB;rw [show r / 9223372036854775808=0 by omega];rfl
 have d:sB 4611686018427387904=false:=by decide
 rw [o,p,d];obtain⟨s,n,l⟩:=JL h;have i:=bf a 3 (-1074+(pl r:Int) - 1);rw [show -1074+(pl r:Int) - 1 - ((3:Nat):Int)= -1074+(pl r:Int) - -51 - 1 - ((54:Nat):Int) by omega] at i
 rw [i,<- n,l,show -1074+((pl (r - 4503599627370496)+1:Nat):Int) - 1= -1074+(pl (r - 4503599627370496):Int) by omega,pB (by omega) (by omega)]
 exact tR _
def lnM (N:Nat):Nat:=if 4609047870845172685<oneB N then oneB N - 4503599627370496 else oneB N
def lnK (N:Nat) (e:Int):Int:=if 4609047870845172685<oneB N then e+(N.log2:Int)+1 else e+(N.log2:Int)
theorem DK {N:Nat} (c:N≠0) (h:N<9007199254740992):ag (lnM N)/\lnM N<9218868437227405312:=by
 obtain⟨a,b⟩:=lU c h;unfold lnM ag
 split<;>omega
theorem No {m:Nat} (h:m<9218868437227405312):(FloatKind.f64.format.order m 4609047870845172685==some .gt)=decide (4609047870845172685<m):=by
 have e:U64 (m:Int):=by unfold U64;omega
 have d:U64 ((4609047870845172685:Nat):Int):=by unfold U64;omega
 have c:=iL (b:=m) h;have a:=iL (b:=4609047870845172685) (by decide)
 rw [lO e d c.2.1 a.2.1,c.2.2,a.2.2];exact decide_eq_decide.2 (by omega)
theorem BH (x N:Nat) (e:Int) (h:U64 x) (hn:ag x) (g:OfR x false N e) (f:N≠0) (w:World) :
  Calls Tryz.prog 229 #[.float .f64 x] w fun r a=>r=.returned (.tuple #[.float .f64 (lnM N),.int .i64 (lnK N e)])/\∃ q,a=w.drewN q:=by
 have d:x<18446744073709551616:=by have:=h.2;omega
 obtain⟨l,i,_⟩:=yA g d hn f;have b:=g.lt;have n:=g.lo;have p:=g.hi;have u:N.log2<=52:=by have:=(Nat.log2_lt f).2 (show N<2^53 from b);omega
 have o:Hid (∀ w,Calls Tryz.prog 85 #[.float .f64 x] w fun r a=>r=.returned (.tuple #[.int .i64 (N:Int),.int .i64 e,.bool (ay (x:Int))])/\a=w):=fun w=>by
  have:=fI x x w rfl h;rw [l,i] at this;exact this
 have j:Hid (∀ w,Calls Tryz.prog 233 #[.int .u64 (N:Int)] w fun r a=>r=.returned (.int .i64 ((N.log2:Int)+1))/\a=w):=fun w=>by
  have:=Tryz.bits_Len (N:Int) w (by omega) (by omega)
  rw [Int.toNat_natCast,jd f (by omega)] at this
  exact this
 have m:Hid (∀ w,Calls Tryz.prog 86 #[.int .i64 (N:Int),.int .i64 (1 - ((N.log2:Int)+1))] w fun r a=>r=.returned (.float .f64 (oneB N))/\∃ q,a=w.drewN q):=fun w=>by
  have:=ce (N:Int) (1 - ((N.log2:Int)+1)) w (by omega) (by omega)
  have e:aI (N:Int) (1 - ((N.log2:Int)+1))=oneB N:=by
   unfold aI;rw [if_neg (by omega),if_neg (by omega),Int.natAbs_natCast,show 1 - ((N.log2:Int)+1)= -(N.log2:Int) by omega,tQ f b]
  rw [e] at this;exact this
 obtain⟨s,t⟩:=lU f b;have:=FC x (oneB N) (oneB N - 4503599627370496) (N:Int) e ((N.log2:Int)+1) _ _ w o (by omega) (by omega) j (by omega) m (No (by omega)) (JN (by omega) (by omega))
 refine this.mono ?_
 rintro r a ⟨rfl,k⟩;refine⟨?_,k⟩
 unfold lnM lnK
 by_cases c:4609047870845172685<oneB N
 ·rw [if_pos c,if_pos c,decide_eq_true c];simp only [if_true];rw [show e+((N.log2:Int)+1)=e+(N.log2:Int)+1 by omega]
 ·rw [if_neg c,if_neg c,decide_eq_false c];simp only [Bool.false_eq_true,if_false];rw [show e+((N.log2:Int)+1) - 1=e+(N.log2:Int) by omega]
theorem vW (op:BinOp) (o o':Option Nat):floatBits op .f64 (cn o) (cn o')=opO op o o':=(jp (ID o) (ID o')).symm
theorem qO {op:BinOp} (a:op=.add\/op=.sub\/op=.mul\/op=.quo) (o o':Option Nat):cn (opO op o o')<18446744073709551616:=by rw [<- vW];exact xz a _ _
theorem BI {o o':Option Nat} {u v z:Int} (a:u=(cn o:Int)) (f:v=(cn o':Int)) (h:U64 u) (d:U64 v) (b:z=(cn (opO .mul o o'):Int)) (w:World) :
  Calls Tryz.prog 63 #[.int .u64 u,.int .u64 v] w fun e c=>e=.returned (.int .u64 z)/\Below w.heap.size w c:=by
 have:=cX (cn o) (cn o') u v w a f h d;rw [vW,<- b] at this;exact this
theorem JO {o o':Option Nat} {u v z:Int} (a:u=(cn o:Int)) (f:v=(cn o':Int)) (h:U64 u) (d:U64 v) (b:z=(cn (opO .add o o'):Int)) (w:World) :
  Calls Tryz.prog 50 #[.int .u64 u,.int .u64 v] w fun e c=>e=.returned (.int .u64 z)/\Below w.heap.size w c:=by
 have:=fM (cn o) (cn o') u v w a f h d;rw [vW,<- b] at this;exact this
end Go.Proofs.YtfdddijdjpijbaaGreat
