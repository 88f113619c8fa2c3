/-  -/
import Derived.Test.YtfdddijdjpijbaaGreatHar
import Derived.Test.YtfdddijdjpijbaaGreatHay
import Derived.Deep.RegionHeld3
import Derived.Test.YtfdddijdjpijbaaGreatHaq
import Derived.Test.YtfdddijdjpijbaaGreatHas
import Derived.Test.YtfdddijdjpijbaaGreatHax
set_option maxHeartbeats 3200000
set_option maxRecDepth 20000
namespace Go.Proofs.YtfdddijdjpijbaaGreat
open Go.RowKit
def sAdd (x y:Nat):Nat:=cn (floatBits .add .f64 x y)
def sSub (x y:Nat):Nat:=cn (floatBits .sub .f64 x y)
def sMul (x y:Nat):Nat:=cn (floatBits .mul .f64 x y)
def sDiv (x y:Nat):Nat:=cn (floatBits .quo .f64 x y)
theorem uM {op:BinOp} (a:op=.add\/op=.sub\/op=.mul\/op=.quo) (x y:Nat):cn (floatBits op .f64 x y)<18446744073709551616:=by
 cases h:floatBits op .f64 x y with
 | none=>decide
 | some r=>exact jb a h
theorem uN (x y:Nat):sSub x y<18446744073709551616:=uM (by simp) x y
theorem jM (x y:Nat):sDiv x y<18446744073709551616:=uM (by simp) x y
theorem CN (x y:Nat):sMul x y<18446744073709551616:=uM (by simp) x y
theorem uO (x y:Nat):sAdd x y<18446744073709551616:=uM (by simp) x y
theorem aU {x:Nat} (h:x<18446744073709551616):U64 (x:Nat):=⟨by omega,by omega⟩
theorem xj (x y:Nat) (w:World) (b:x<18446744073709551616) (c:y<18446744073709551616) :
  Calls Tryz.prog 35 #[.int .u64 (x:Int),.int .u64 (y:Int)] w fun e a=>e=.returned (.int .u64 (sSub x y:Int))/\Below w.heap.size w a:=kF x y _ _ w rfl rfl (aU b) (aU c)
theorem gE (x y:Nat) (w:World) (b:x<18446744073709551616) (c:y<18446744073709551616) :
  Calls Tryz.prog 144 #[.int .u64 (x:Int),.int .u64 (y:Int)] w fun e a=>e=.returned (.int .u64 (sDiv x y:Int))/\Below w.heap.size w a:=iu x y _ _ w rfl rfl (aU b) (aU c)
theorem xk (x y:Nat) (w:World) (b:x<18446744073709551616) (c:y<18446744073709551616) :
  Calls Tryz.prog 63 #[.int .u64 (x:Int),.int .u64 (y:Int)] w fun e a=>e=.returned (.int .u64 (sMul x y:Int))/\Below w.heap.size w a:=cU x y _ _ w rfl rfl (aU b) (aU c)
theorem xl (x y:Nat) (w:World) (b:x<18446744073709551616) (c:y<18446744073709551616) :
  Calls Tryz.prog 50 #[.int .u64 (x:Int),.int .u64 (y:Int)] w fun e a=>e=.returned (.int .u64 (sAdd x y:Int))/\Below w.heap.size w a:=fA x y _ _ w rfl rfl (aU b) (aU c)
theorem kn {n:Int} (b: -9007199254740992<=n) (a:n<=9007199254740992):fi n<18446744073709551616:=(nA rfl b a).2.2.2
def steepB (xs:List Int) (ys:List Nat) (k:Nat):Nat:=sDiv (sSub (ys.getD (k+1) 0) (ys.getD k 0)) (fi (xs.getD (k+1) 0 - xs.getD k 0))
structure Six6 (w:World) (B:Nat) (vx vy:Value) (bx ox b2 oy k j:Nat) (x0 x1:Int) (y0 y1:Nat):Prop where
 t1:w.cell? ⟨B,1,none⟩=some vx
 t2:w.cell? ⟨B,2,none⟩=some vy
 a0:w.cell? ⟨bx,ox+k,none⟩=some (.int .i64 x0)
 a1:w.cell? ⟨bx,ox+j,none⟩=some (.int .i64 x1)
 b0:w.cell? ⟨b2,oy+k,none⟩=some (.int .u64 (y0:Int))
 b1:w.cell? ⟨b2,oy+j,none⟩=some (.int .u64 (y1:Int))
theorem Six6.all {w:World} {B:Nat} {f g:Value} {a b d c k j:Nat} {e i:Int} {y0 y1:Nat} (h:Six6 w B f g a b d c k j e i y0 y1):w.cell? ⟨B,1,none⟩=some f/\w.cell? ⟨B,2,none⟩=some g/\w.cell? ⟨a,b+k,none⟩=some (.int .i64 e)/\w.cell? ⟨a,b+j,none⟩=some (.int .i64 i)/\w.cell? ⟨d,c+k,none⟩=some (.int .u64 (y0:Int))/\w.cell? ⟨d,c+j,none⟩=some (.int .u64 (y1:Int)):=⟨h.t1,h.t2,h.a0,h.a1,h.b0,h.b1⟩
theorem Six6.step {w o:World} {B s:Nat} {l m:Value} {b d c e k j:Nat} {q n:Int} {y0 y1:Nat} (h:Six6 w B l m b d c e k j q n y0 y1) (a:Below s w o) (g:B<s) (f:b<s) (i:c<s):Six6 o B l m b d c e k j q n y0 y1:=
 ⟨(a.cell (p:=⟨B,1,none⟩) g).trans h.t1,(a.cell (p:=⟨B,2,none⟩) g).trans h.t2,(a.cell (p:=⟨b,d+k,none⟩) f).trans h.a0,(a.cell (p:=⟨b,d+j,none⟩) f).trans h.a1,(a.cell (p:=⟨c,e+k,none⟩) i).trans h.b0,(a.cell (p:=⟨c,e+j,none⟩) i).trans h.b1⟩
theorem Six6.drew {w:World} {B:Nat} {c d:Value} {b e i g k j:Nat} {a f:Int} {y0 y1:Nat} (h:Six6 w B c d b e i g k j a f y0 y1):Six6 w.drew B c d b e i g k j a f y0 y1:=⟨h.t1,h.t2,h.a0,h.a1,h.b0,h.b1⟩
theorem Ef (kind:Int) (g i cx h l cy n k:Nat) (b a:Int) (y0 y1:Nat) (w w1:World) (B:w.alloc (.cells #[.int .i64 kind,.slice (some ⟨g,i,none⟩) n cx,.slice (some ⟨h,l,none⟩) n cy] 156)=w1) (D:Six6 w1 w.heap.size (.slice (some ⟨g,i,none⟩) n cx) (.slice (some ⟨h,l,none⟩) n cy) g i h l k (k+1) b a y0 y1) (L:k+1<n) (hn:n<=1000) (t:g<w1.heap.size) (m:h<w1.heap.size) (u:Below w.heap.size w w1) (o:w.heap.size<w1.heap.size) (P:0<=b) (h1:b<=109572) (S:0<=a) (h3:a<=109572) (s:y0<18446744073709551616) (p:y1<18446744073709551616) :
  Calls Tryz.prog 186 #[.agg #[.int .i64 kind,.slice (some ⟨g,i,none⟩) n cx,.slice (some ⟨h,l,none⟩) n cy],.int .i64 (k:Int)] w fun e M=>e=.returned (.int .u64 (sDiv (sSub y1 y0) (fi (a - b)):Int))/\Below w.heap.size w M:=by
 have O:k<n:=by omega
 have T:IntKind.i64.wrap ((k:Int)+1)=(k:Int)+1:=by rw [IntKind.wrap_i64];omega
 have g1:(0:Int)<=(k:Int)+1:=by omega
 have X:(k:Int)+1<(n:Int):=by omega
 have W:(0:Int)<=(k:Int):=by omega
 have Y:(k:Int)<(n:Int):=by omega
 have f2:IntKind.i64.wrap (a - b)=a - b:=by rw [IntKind.wrap_i64];omega
 have y:=hideS fun q=>xj y1 y0 q p s
 have z:=hideS fun q=>cV (a - b) q (by omega) (by omega)
 have A:=hideS fun q=>gE (sSub y1 y0) (fi (a - b)) q (uN _ _) (kn (by omega) (by omega))
 generalize sDiv (sSub y1 y0) (fi (a - b))=R at *
 generalize sSub y1 y0=U at *
 generalize fi (a - b)=F at *
 have I:=hideS D;have r:=hideS u;have c:=hideS (And.intro o (And.intro t m));obtain⟨Q,t2,a0,a1,b0,V⟩:=D;clear s p u o t m
 go_enter Tryz.func186,Tryz.ntmps186
 go_wp2_with fail
 clear B
 go_region_held3 (fun x=>x.cell? ⟨w.heap.size,1,none⟩=some (.slice (some ⟨g,i,none⟩) n cx)/\x.cell? ⟨w.heap.size,2,none⟩=some (.slice (some ⟨h,l,none⟩) n cy)/\x.cell? ⟨g,i+k,none⟩=some (.int .i64 b)/\x.cell? ⟨g,i+(k+1),none⟩=some (.int .i64 a)/\x.cell? ⟨h,l+k,none⟩=some (.int .u64 (y0:Int))/\x.cell? ⟨h,l+(k+1),none⟩=some (.int .u64 (y1:Int))) (first | exact I.out.all | exact J.out.all | exact G.out.all | exact N.out.all | go_keep) (first | ((go_at_call 35;refine (y.out _).mono ?_;rintro e w2 ⟨rfl,f⟩;have H:=hideS (r.out.drew.trans (f.mono r.out.size));have J:=hideS (I.out.drew.step f c.out.1 c.out.2.1 c.out.2.2);have v:=hideS (Nat.le_trans (Nat.le_refl w1.heap.size) f.size);clear f)) | ((go_at_call 101;refine (z.out _).mono ?_;rintro e w3 ⟨rfl,d⟩;have E:=hideS (H.out.trans (d.mono H.out.size));have G:=hideS (J.out.step d (Nat.lt_of_lt_of_le c.out.1 v.out) (Nat.lt_of_lt_of_le c.out.2.1 v.out) (Nat.lt_of_lt_of_le c.out.2.2 v.out));have C:=hideS (Nat.le_trans v.out d.size);clear d)) | ((go_at_call 144;refine (A.out _).mono ?_;rintro e Z ⟨rfl,j⟩;have K:=hideS (E.out.trans (j.mono E.out.size));have N:=hideS (G.out.step j (Nat.lt_of_lt_of_le c.out.1 C.out) (Nat.lt_of_lt_of_le c.out.2.1 C.out) (Nat.lt_of_lt_of_le c.out.2.2 C.out));clear j)))
 all_goals
  go_wp2_with fail
  go_ret
  exact⟨rfl,K.out⟩
theorem ED {M s:Nat} (b:M≠0) (h:M.log2<s):bK M s false=1:=by
 have a:M<2^s:=(Nat.log2_lt b).1 h;unfold bK;rw [Nat.mod_eq_of_lt a,Nat.div_eq_of_lt a,if_neg (fun c=>b c.1),if_neg (by decide)]
theorem og {M s:Nat} {p:Int} (b:M≠0) (h:(s:Int)+p<=-1076):nearR (bK M s false) (s+p)=nearR M p:=by
 have f:an (bK M s false) (s+p)=an M p:=by
  by_cases a:s<=M.log2
  ·obtain⟨e,_⟩:=cT false a b;unfold an;rw [e];congr 1;omega
  ·rw [ED b (by omega)]
   unfold an;rw [show Nat.log2 1=0 by decide]
   omega
 have g:(s:Int)+p+2<=an M p:=by unfold an;omega
 unfold nearR;rw [f];obtain⟨d,l⟩:∃ d:Nat,an M p=s+p+d:=⟨(an M p - (s+p)).toNat,by omega⟩
 have i:((s:Int)+p - an M p).toNat=0:=by omega
 have k:(p - an M p).toNat=0:=by omega
 have c:(an M p - (s+p)).toNat=d:=by omega
 have j:(an M p - p).toNat=d+s:=by omega
 rw [i,k,c,j,Nat.pow_zero,Nat.mul_one,Nat.mul_one];have a:bK M s false=(if M % 2^s=0 then M / 2^s else (if M / 2^s % 2=1 then M / 2^s else M / 2^s+1)):=by unfold bK;simp only [and_true]
 rw [a,kz (by omega)]
theorem uX {X Y a b:Nat} {p:Int} (k:X≠0) (j:0<Y) (l:a<=b) (n:p - a<=-1076):nearR (aP X Y a) (p - a)=nearR (aP X Y b) (p - b):=by
 obtain⟨t,rfl⟩:∃ t,b=a+t:=⟨b - a,by omega⟩
 have h:=sR (X:=X) a t j;obtain⟨M,g⟩:∃ M,aP X Y (a+t)=M:=⟨_,rfl⟩;have d:M≠0:=by
  rw [<- g];unfold aP;have m:0<X*2^(a+t):=Nat.mul_pos (by omega) (Nat.two_pow_pos _)
  generalize X*2^(a+t)=A at *
  have e:=Nat.div_add_mod A Y
  by_cases f:A % Y=0
  ·rw [if_pos f];intro c;have i:A / Y=0:=by omega
   rw [i,f,Nat.mul_zero] at e
   omega
  ·rw [if_neg f];omega
 rw [g] at h ⊢
 have:=og (M:=M) (s:=t) (p:=p - ((a+t:Nat):Int)) d (by omega)
 rw [h,show (t:Int)+(p - ((a+t:Nat):Int))=p - a by omega] at this
 exact this
theorem IC (X Y a k:Nat):aP (X*2^a) Y k=aP X Y (a+k):=by
 unfold aP;rw [Nat.mul_assoc,<- Nat.pow_add]
def overG (N:Int) (d:Nat):Nat:=if N=0 then 0 else wrd (decide (N<0)) (nearR (aP N.natAbs d 0) (-2149))
def gc (N:Int) (d:Nat):Int:=if N=0 then 0 else if N<0 then -(nearR (aP N.natAbs d 0) (-2149):Int) else (nearR (aP N.natAbs d 0) (-2149):Int)
theorem pT (M:Nat) (p:Int):nearR M p<=9218868437227405312:=by
 rw [kA];omega
theorem EG (s:Bool) {r:Nat} (h:r<=9218868437227405312):U64 (wrd s r:Nat)/\ah (wrd s r:Nat)=false/\ae (wrd s r:Nat)=if s then -(r:Int) else (r:Int):=by
 have a:ah (wrd s r:Nat)=false:=by
  unfold ah szI wrd;rw [decide_eq_false_iff_not];cases s<;>simp<;>omega
 refine⟨by unfold U64 wrd;cases s<;>simp<;>omega,a,?_⟩
 unfold ae;rw [a,if_neg (by decide)]
 unfold sgB szI wrd;cases s
 ·have:¬ (9223372036854775808:Int)<=(r:Int):=by omega
  simp [this];omega
 ·simp;omega
theorem cA (N:Int) (d:Nat):U64 (overG N d:Nat)/\ah (overG N d:Nat)=false/\ae (overG N d:Nat)=gc N d:=by
 unfold overG gc
 by_cases e:N=0
 ·rw [if_pos e,if_pos e];exact⟨by unfold U64;decide,by decide,by decide⟩
 ·rw [if_neg e,if_neg e];obtain⟨a,b,c⟩:=EG (decide (N<0)) (pT (aP N.natAbs d 0) (-2149));refine⟨a,b,?_⟩
  rw [c]
  by_cases f:N<0<;>simp [f]
theorem pU {X a Y k:Nat} (h:X<=a):aP X Y k<=aP a Y k:=by
 have c:X*2^k<=a*2^k:=Nat.mul_le_mul_right _ h;unfold aP;generalize X*2^k=A at *
 generalize a*2^k=B at *
 have e:A / Y<=B / Y:=Nat.div_le_div_right c;have d:=Nat.div_add_mod A Y;have f:=Nat.div_add_mod B Y
 by_cases b:A / Y=B / Y
 ·rw [b] at d ⊢
  have:A % Y<=B % Y:=by omega
  split<;>split<;>omega
 ·split<;>split<;>omega
theorem sY {N a:Int} (d:Nat) (h:N<=a):gc N d<=gc a d:=by
 unfold gc
 by_cases b:a<0
 ·have:=bS (-2149) (pU (Y:=d) (k:=0) (show a.natAbs<=N.natAbs by omega))
  rw [if_neg (by omega),if_pos (by omega),if_neg (by omega),if_pos b]
  omega
 ·by_cases c:0<N
  ·have:=bS (-2149) (pU (Y:=d) (k:=0) (show N.natAbs<=a.natAbs by omega))
   rw [if_neg (by omega),if_neg (by omega),if_neg (by omega),if_neg (by omega)]
   omega
  ·(repeat' split)<;>omega
theorem IH (N:Int) (d:Nat):gc (-N) d= -gc N d:=by
 unfold gc
 by_cases a:N=0
 ·rw [if_pos a,if_pos (by omega)];rfl
 ·rw [if_neg a,if_neg (by omega),Int.natAbs_neg]
  by_cases b:N<0
  ·rw [if_pos b,if_neg (by omega)];omega
  ·rw [if_neg b,if_pos (by omega)]
theorem CV {r d K:Nat} (j:K=1074) (i:r<9218868437227405312) (g:0<d):gc (((V r*2^K*d:Nat)):Int) d=r:=by
 unfold gc
 by_cases f:V r*2^K*d=0
 ·rw [f,if_pos (show ((0:Nat):Int)=0 from rfl)]
  have h:V r=0:=by
   have k:=Nat.two_pow_pos K;rcases Nat.mul_eq_zero.1 f with c | c
   ·rcases Nat.mul_eq_zero.1 c with c | c<;>omega
   ·omega
  have:V r=V 0:=by rw [h,bp]
  rw [eX] at this
  rw [this];rfl
 ·rw [if_neg (by omega),if_neg (by omega),Int.natAbs_natCast]
  have e:aP (V r*2^K*d) d 0=V r*2^(K+1):=by
   unfold aP;rw [Nat.pow_zero,Nat.mul_one,Nat.mul_div_cancel _ g,Nat.mul_mod_left,if_pos rfl,Nat.pow_succ,Nat.add_zero];generalize V r=a;generalize 2^K=b;rw [Nat.mul_comm 2,Nat.mul_assoc]
  rw [e];have:=jK i (K+1);rw [show (-1074:Int) - ((K+1:Nat):Int)= -2149 by omega] at this
  rw [this]
def uI (K:Nat) (y:Nat):Int:=vI y*((2^K:Nat):Int)
theorem vI_rank {y:Nat} (c:y<18446744073709551616) (e:af y):(0<=ae (y:Nat)/\vI y=(V (y % 9223372036854775808):Int)/\ae (y:Nat)=((y % 9223372036854775808:Nat):Int))\/(ae (y:Nat)<=0/\vI y= -(V (y % 9223372036854775808):Int)/\ae (y:Nat)= -((y % 9223372036854775808:Nat):Int)):=by
 unfold af at e
 have d:ah (y:Nat)=false:=by unfold ah szI;rw [decide_eq_false_iff_not];omega
 unfold ae vI;rw [d,if_neg (by decide)]
 unfold sgB szI
 by_cases f:y<9223372036854775808
 ·left
  have b:¬ (9223372036854775808:Int)<=(y:Int):=by omega
  have a:y / 9223372036854775808 % 2=0:=by omega
  rw [a];simp only [b,decide_false,Bool.false_eq_true,if_false,show ((0:Nat)==1)=false from rfl]
  exact⟨by omega,trivial,by omega⟩
 ·right
  have b:(9223372036854775808:Int)<=(y:Int):=by omega
  have a:y / 9223372036854775808 % 2=1:=by omega
  rw [a];simp only [b,decide_true,if_true,beq_self_eq_true];exact⟨by omega,trivial,by omega⟩
theorem xF {y d K:Nat} (e:K=1074) (a:y<18446744073709551616) (g:af y) (f:0<d):gc (uI K y*(d:Int)) d=ae (y:Nat):=by
 unfold af at g
 rcases vI_rank a g with⟨_,c,b⟩| ⟨_,c,b⟩
 ·unfold uI;rw [c,b,<- CV (r:=y % 9223372036854775808) e (by omega) f]
  simp only [Int.natCast_mul]
 ·unfold uI;rw [c,b,<- CV (r:=y % 9223372036854775808) e (by omega) f,Int.neg_mul,Int.neg_mul,IH]
  simp only [Int.natCast_mul]
theorem CW {y d K:Nat} {N:Int} (b:K=1074) (a:y<18446744073709551616) (e:af y) (c:0<d) (h:uI K y*(d:Int)<=N):ae (y:Nat)<=gc N d:=by
 rw [<- xF b a e c];exact sY d h
theorem CX {y d K:Nat} {N:Int} (b:K=1074) (a:y<18446744073709551616) (e:af y) (c:0<d) (h:N<=uI K y*(d:Int)):gc N d<=ae (y:Nat):=by
 rw [<- xF b a e c];exact sY d h
theorem nH {x y:Nat} (K:Nat) (j:x<18446744073709551616) (d:af x) (m:y<18446744073709551616) (c:af y) (h:ae (x:Nat)<=ae (y:Nat)):uI K x<=uI K y:=by
 have g:(0:Int)<=((2^K:Nat):Int):=Int.natCast_nonneg _;unfold uI;refine Int.mul_le_mul_of_nonneg_right ?_ g
 rcases vI_rank j d with⟨f,a,e⟩| ⟨f,a,e⟩ <;>rcases vI_rank m c with⟨n,b,i⟩| ⟨n,b,i⟩
 ·rw [a,b];have:=DF (r:=x % 9223372036854775808) (s:=y % 9223372036854775808) (by omega);omega
 ·rw [a,b];have k:x % 9223372036854775808=0:=by omega
  have l:y % 9223372036854775808=0:=by omega
  rw [k,l,bp];omega
 ·rw [a,b];omega
 ·rw [a,b];have:=DF (r:=y % 9223372036854775808) (s:=x % 9223372036854775808) (by omega);omega
def eJ (n i u0 u1:Int):Int:=(n - i)*u0+i*u1
theorem II {n i u0 u1:Int} (c:0<=i) (e:i<=n) (h:u0<=u1):u0*n<=eJ n i u0 u1/\eJ n i u0 u1<=u1*n:=by
 unfold eJ;have a:i*u0<=i*u1:=Int.mul_le_mul_of_nonneg_left h c;have b:(n - i)*u0<=(n - i)*u1:=Int.mul_le_mul_of_nonneg_left h (by omega)
 have d:(n - i)*u0=n*u0 - i*u0:=Int.sub_mul ..;have f:(n - i)*u1=n*u1 - i*u1:=Int.sub_mul ..;rw [Int.mul_comm u0 n,Int.mul_comm u1 n];omega
theorem IJ {n i j u0 u1:Int} (h:u0<=u1) (b:i<=j):eJ n i u0 u1<=eJ n j u0 u1:=by
 unfold eJ;have a:(j - i)*u0<=(j - i)*u1:=Int.mul_le_mul_of_nonneg_left h (by omega)
 rw [Int.sub_mul,Int.sub_mul] at a
 rw [Int.sub_mul,Int.sub_mul];omega
theorem vc (n i u0 u1:Int):eJ n i (-u0) (-u1)= -eJ n i u0 u1:=by
 unfold eJ;rw [Int.mul_neg,Int.mul_neg];omega
def eD (n i u0 u1 u2 u3:Int):Int:=(n - i)*(n - i)*(n - i)*u0+3*(n - i)*(n - i)*i*u1+3*(n - i)*i*i*u2+i*i*i*u3
def wA (n i:Int):Int:=n*n*n - (n - i)*(n - i)*(n - i)
def wB (n i:Int):Int:=i*i*(3*(n - i)+i)
def wC (i:Int):Int:=i*i*i
theorem CY (x:Int):3*x=x+x+x:=by omega
theorem Qm (x:Int):2*x=x+x:=by omega
theorem sZ (n i u0 u1 u2 u3:Int):eD n i u0 u1 u2 u3=n*n*n*u0+wA n i*(u1 - u0)+wB n i*(u2 - u1)+wC i*(u3 - u2):=by
 unfold eD wA wB wC;obtain⟨a,b⟩:∃ a,n - i=a:=⟨_,rfl⟩;have c:n=a+i:=by omega
 rw [b,c];simp only [CY];simp only [Int.mul_add,Int.add_mul,Int.mul_sub,Int.sub_mul,Int.mul_assoc];simp only [Int.mul_comm,Int.mul_left_comm];omega
theorem CZ {i j:Int} (a:0<=i) (h:i<=j):wC i<=wC j:=by
 unfold wC;have b:i*i<=j*j:=Int.mul_le_mul h h a (by omega)
 exact Int.mul_le_mul b h a (Int.mul_nonneg (by omega) (by omega))
theorem Mu {n i j:Int} (h:i<=j) (hn:j<=n):wA n i<=wA n j:=by
 unfold wA;have:=CZ (i:=n - j) (j:=n - i) (by omega) (by omega)
 unfold wC at this
 omega
theorem Mv (a i t:Int):(i+t)*(i+t)*(3*(a - t)+(i+t)) - i*i*(3*a+i)=t*(3*(i*(2*a - t))+t*(3*a - 2*t)):=by
 simp only [CY,Qm];simp only [Int.mul_add,Int.add_mul,Int.mul_sub,Int.mul_assoc];simp only [Int.mul_comm,Int.mul_left_comm];omega
theorem Mw {n i j:Int} (b:0<=i) (h:i<=j) (hn:j<=n):wB n i<=wB n j:=by
 obtain⟨t,c⟩:∃ t,j=i+t:=⟨j - i,by omega⟩
 obtain⟨a,d⟩:∃ a,n - i=a:=⟨_,rfl⟩;have e:=Mv a i t;unfold wB;rw [c,d,show n - (i+t)=a - t by omega]
 have f:0<=i*(2*a - t):=Int.mul_nonneg b (by omega)
 have g:0<=t*(3*a - 2*t):=Int.mul_nonneg (by omega) (by omega)
 have k:0<=t*(3*(i*(2*a - t))+t*(3*a - 2*t)):=Int.mul_nonneg (by omega) (by omega)
 omega
theorem pV {n i j u0 u1 u2 u3:Int} (d:0<=i) (h:i<=j) (hn:j<=n) (f:u0<=u1) (e:u1<=u2) (g:u2<=u3):eD n i u0 u1 u2 u3<=eD n j u0 u1 u2 u3:=by
 rw [sZ,sZ];have a:=Int.mul_le_mul_of_nonneg_right (Mu h hn) (show 0<=u1 - u0 by omega)
 have b:=Int.mul_le_mul_of_nonneg_right (Mw d h hn) (show 0<=u2 - u1 by omega)
 have c:=Int.mul_le_mul_of_nonneg_right (CZ d h) (show 0<=u3 - u2 by omega)
 omega
theorem Da (n u0 u1 u2 u3:Int):eD n 0 u0 u1 u2 u3=u0*(n*n*n):=by
 unfold eD;simp only [Int.sub_zero,Int.mul_zero,Int.zero_mul,Int.add_zero];exact Int.mul_comm _ _
theorem Db (n u0 u1 u2 u3:Int):eD n n u0 u1 u2 u3=u3*(n*n*n):=by
 unfold eD;simp only [Int.sub_self,Int.mul_zero,Int.zero_mul,Int.zero_add];exact Int.mul_comm _ _
theorem OO {n i u0 u1 u2 u3:Int} (c:0<=i) (h:i<=n) (e:u0<=u1) (d:u1<=u2) (f:u2<=u3):u0*(n*n*n)<=eD n i u0 u1 u2 u3/\eD n i u0 u1 u2 u3<=u3*(n*n*n):=by
 have a:=pV (n:=n) (Int.le_refl 0) c h e d f;have b:=pV (n:=n) c h (Int.le_refl n) e d f;rw [Da] at a
 rw [Db] at b
 exact⟨a,b⟩
theorem Dc (n i u0 u1 u2 u3:Int):eD n i (-u0) (-u1) (-u2) (-u3)= -eD n i u0 u1 u2 u3:=by
 unfold eD;rw [Int.mul_neg,Int.mul_neg,Int.mul_neg,Int.mul_neg];omega
theorem xG {n i j u0 u1 u2 u3:Int} (a:0<=i) (h:i<=j) (hn:j<=n) (c:u1<=u0) (b:u2<=u1) (d:u3<=u2):eD n j u0 u1 u2 u3<=eD n i u0 u1 u2 u3:=by
 have:=pV (n:=n) (u0:=-u0) (u1:=-u1) (u2:=-u2) (u3:=-u3) a h hn (by omega) (by omega) (by omega)
 rw [Dc,Dc] at this
 omega
theorem OP {n i u0 u1 u2 u3:Int} (c:0<=i) (h:i<=n) (e:u1<=u0) (d:u2<=u1) (f:u3<=u2):u3*(n*n*n)<=eD n i u0 u1 u2 u3/\eD n i u0 u1 u2 u3<=u0*(n*n*n):=by
 have a:=xG (n:=n) (Int.le_refl 0) c h e d f;have b:=xG (n:=n) c h (Int.le_refl n) e d f;rw [Da] at a
 rw [Db] at b
 exact⟨b,a⟩
theorem Qn {n i j u0 u1:Int} (h:u1<=u0) (a:i<=j):eJ n j u0 u1<=eJ n i u0 u1:=by
 have:=IJ (n:=n) (u0:=-u0) (u1:=-u1) (by omega) a
 rw [vc,vc] at this
 omega
theorem OQ {n i u0 u1:Int} (a:0<=i) (b:i<=n) (h:u1<=u0):u1*n<=eJ n i u0 u1/\eJ n i u0 u1<=u0*n:=by
 have:=II (n:=n) (u0:=-u0) (u1:=-u1) a b (by omega)
 rw [vc,Int.neg_mul,Int.neg_mul] at this
 omega
end Go.Proofs.YtfdddijdjpijbaaGreat
namespace Go.Proofs.YtfdddijdjpijbaaGreat
theorem Mx {X a Y k:Nat} (h:X<=a):aP X Y k<=aP a Y k:=by
 unfold aP;have d:X*2^k<=a*2^k:=Nat.mul_le_mul_right _ h;generalize X*2^k=A at *
 generalize a*2^k=B at *
 have f:=Nat.div_le_div_right (c:=Y) d;have e:=Nat.div_add_mod A Y;have g:=Nat.div_add_mod B Y
 by_cases b:A / Y=B / Y
 ·rw [b] at e ⊢
  have:A % Y<=B % Y:=by omega
  split<;>split<;>omega
 ·split<;>split<;>omega
theorem EN {X Y b k:Nat} (d:0<Y) (h:Y<=b):aP X b k<=aP X Y k:=by
 unfold aP;generalize X*2^k=A;have f:=Nat.div_le_div_left (a:=A) h d;have g:=Nat.div_add_mod A Y;have e:=Nat.div_add_mod A b
 by_cases c:A / b=A / Y
 ·have i:Y*(A / Y)<=b*(A / Y):=Nat.mul_le_mul_right _ h;rw [c] at e ⊢
  have:A % b<=A % Y:=by omega
  split<;>split<;>omega
 ·split<;>split<;>omega
theorem AS {X Y a b K:Nat} (h:b<=a+K):aP (X*2^a) (Y*2^b) K=aP X Y (a+K - b):=by
 have e:X*2^a*2^K=X*2^(a+K - b)*2^b:=by
  rw [Nat.mul_assoc,<- Nat.pow_add,Nat.mul_assoc,<- Nat.pow_add,show a+K - b+b=a+K by omega]
 unfold aP;rw [e,Nat.mul_div_mul_right _ _ (Nat.two_pow_pos b),Nat.mul_mod_mul_right];have d:=Nat.two_pow_pos b;generalize X*2^(a+K - b) % Y=m
 by_cases c:m=0
 ·rw [if_pos c,if_pos (by rw [c,Nat.zero_mul])]
 ·rw [if_neg c,if_neg (fun e=>by rcases Nat.mul_eq_zero.1 e with e | e<;>omega)]
def qR (X Y:Nat):Nat:=if X=0 then 0 else nearR (aP X Y 2200) (-2201)
theorem Qo {X b Y:Nat} (h:X<=b):qR X Y<=qR b Y:=by
 unfold qR
 by_cases a:X=0
 ·rw [if_pos a];exact Nat.zero_le _
 ·rw [if_neg a,if_neg (by omega)]
  exact bS _ (Mx h)
theorem My {X Y b:Nat} (c:0<Y) (h:Y<=b):qR X b<=qR X Y:=by
 unfold qR
 by_cases a:X=0
 ·rw [if_pos a,if_pos a];exact Nat.le_refl _
 ·rw [if_neg a,if_neg a];exact bS _ (EN c h)
theorem IN {r:Nat} (h:r<9218868437227405312):pl r<=2046:=by unfold pl;omega
theorem pX {x y:Nat} (f:af x) (d:af y) (b:y % 9223372036854775808≠0):∃ r,floatBits .quo .f64 x y=some r/\RkW r (sgZ (sB x^^sB y) (qR (aV x) (aV y))):=by
 by_cases a:x % 9223372036854775808=0
 ·refine⟨_,pL a d b,?_⟩
  have e:aV x=0:=by unfold aV;rw [a];exact bp
  have c:qR (aV x) (aV y)=0:=by unfold qR;rw [if_pos e]
  rw [c];exact vg (by omega)
 ·have j:=IN f;have g:=IN d;have i:54+(mg (y % 9223372036854775808)).log2 - (mg (x % 9223372036854775808)).log2<=pl (x % 9223372036854775808)+2200 - pl (y % 9223372036854775808):=by
   have:=ns (y % 9223372036854775808);have k:(mg (y % 9223372036854775808)).log2<53:=(Nat.log2_lt (fy b)).2 (by omega)
   omega
  refine⟨_,jL f d a b rfl rfl rfl rfl i,?_⟩
  have h:aV x≠0:=by
   intro e;exact a (lD e)
  have c:qR (aV x) (aV y)=nearR (aP (mg (x % 9223372036854775808)) (mg (y % 9223372036854775808)) (pl (x % 9223372036854775808)+2200 - pl (y % 9223372036854775808))) (-1074+(pl (x % 9223372036854775808):Int) - (-1074+(pl (y % 9223372036854775808):Int)) - 1 - ((pl (x % 9223372036854775808)+2200 - pl (y % 9223372036854775808):Nat):Int)):=by
   unfold qR;rw [if_neg h];unfold aV V;rw [AS (by omega)]
   congr 1
   omega
  rw [c];exact vg (mJ _ _)
end Go.Proofs.YtfdddijdjpijbaaGreat
namespace Go.Proofs.YtfdddijdjpijbaaGreat
open Go.RowKit
theorem Ja (k:Nat):ke (k+1)=ke k*max k 1:=rfl
theorem Jb {k:Nat}:(k<=1->ke (k+1)=ke k)/\(1<k->ke (k+1)=ke k*k):=by
 rw [Ja];refine⟨fun h=>?_,fun h=>?_⟩
 ·rw [show max k 1=1 by omega,Nat.mul_one]
 ·rw [show max k 1=k by omega]
theorem expL_len:expL.length=14:=by decide
theorem Jc:FitL expL:=by unfold FitL;decide
theorem EU (w:World) :
  Calls Tryz.prog 104 #[] w fun e K=>∃ v,e=.returned v/\OwnF K w.heap.size 41 uV v expL/\Below w.heap.size w K:=by
 obtain⟨i0,hi,T,S,Q⟩:=info_parts infoU
 go_enter Tryz.func104,Tryz.ntmps104
 go_wp2
 go_loopw [1,2,3] (fun v s i wr=>∃ k f:Nat,k<=14/\i=.int .i64 k/\s=.int .i64 f/\Hid (f=ke k)/\Hid (wr.ownsRow w.heap.size 41 1 v k (rowOf uV expL k))/\Hid (Below w.heap.size w wr)) (fun _ _ i _=>14 - (intOf i).toNat)
 case atStart=>exact⟨0,1,Nat.zero_le _,rfl,rfl,rfl,World.ownsRow_nil _ _ _ _,Below.refl _ _⟩
 case round=>
  obtain⟨k,f,hk,rfl,rfl,HF,g,U⟩:=hrel
  by_cases N:k<14
  ·have hx:k<expL.length:=by rw [expL_len];exact N
   have Y:=hideS (take_next (f:=uV) hx);have M:=vk k (by omega)
   rw [<- HF.out] at M
   obtain⟨am,ak⟩:=M;have C:=vk (k+1) (by omega)
   obtain⟨D,V⟩:∃ D,ke (k+1)=D:=⟨_,rfl⟩;rw [V] at C
   obtain⟨al,ai⟩:=C;have F:=hideS V.symm;obtain⟨fz,A⟩:∃ fz:Int,(fi (D:Int):Int)=fz:=⟨_,rfl⟩;obtain⟨x,H⟩:∃ x,expL.getD k 0=x:=⟨_,rfl⟩;obtain⟨O,J⟩:∃ O:Int,(x:Int)=O:=⟨_,rfl⟩;have B:Hid (∀ w,Calls Tryz.prog 101 #[.int .i64 (D:Int)] w fun e K=>e=.returned (.int .u64 fz)/\Below w.heap.size w K):=fun w=>by
    have:=cV (D:Int) w (by omega) (by omega)
    rw [A] at this;exact this
   have E:Hid (∀ w,Calls Tryz.prog 144 #[.int .u64 4607182418800017408,.int .u64 fz] w fun e K=>e=.returned (.int .u64 O)/\Below w.heap.size w K):=fun w=>by
    have:=iu 4607182418800017408 (fi (D:Int)) 4607182418800017408 fz w rfl A.symm (by unfold U64;omega) (by rw [<- A];exact ag (wV (a:=(D:Int)) rfl (by omega) (by omega)).2.2.2)
    have e:=Dg k N;rw [V,H] at e
    rw [e,ar,J] at this;exact this
   rw [H] at Y
   have P:=hideS J;clear hx V A H J;have L:=U.out.size;have p:=Jb (k:=k);rw [<- F.out,<- HF.out] at p
   have ab:∀ (W:World) (m:Below wr.heap.size wr W),True:=fun _ _=>trivial
   clear ab;rcases (show k<=1\/1<k by omega) with G | G
   ·have z:=p.1 G;subst z;clear p
    go_wp2_with fail
    refine (B.out _).mono ?_
    rintro e W ⟨rfl,m⟩;have h:=hideS m;clear m
    go_wp2_with fail
    refine (E.out _).mono ?_
    rintro e X ⟨rfl,y⟩;have q:=hideS (h.out.trans (y.mono h.out.size));have r:=hideS (own_below g.out q.out);have o:=hideS (U.out.trans (q.out.mono L));have n:=o.out.size;clear y h g
    go_wp2_with (at_builtin;refine wpList_append_own _ rfl _ _ 33 rfl w.heap.size 41 i0 (.int .u64 0) 1 8 Tryz.underlying33 hi T S Q rfl (by decide) _ _ _ rfl (r.out.alloc _) ⟨X.heap.size,0,none⟩ 1 1 [.int .u64 O] rfl rfl ?c1 ?c2 ?c3 ?c4 ?c5 ?_)
    case c1=>
     intro j u l
     match j,l with
     | 0,l=>simp at l;subst l;simp [Addr.add]
    case c2=>intro u R;simp at R;subst R;rfl
    case c3=>unfold maxLen;omega
    case c4=>omega
    case c5=>simp;omega
    ·intro v' w3 b c _;have d:=r.out.lt;have t:Below w.heap.size w w3:=(o.out.alloc n _).grown c (by simp;omega) (fun j l=>(d j l).1)
     rw [<- P.out,show Value.int IntKind.u64 (x:Int)=uV x from rfl,<- Y.out] at b
     have Z:=hideS b;have I:=hideS t;clear b c d t;go_wp2
     go_roundw
     case rel=>exact⟨k+1,_,by omega,by simp,rfl,F,Z,I⟩
     case measure=>simp [intOf];omega
   ·have z:=p.2 G;have ad:(f:Int)*(k:Int)=(D:Int):=by rw [z,Int.natCast_mul]
    clear p z
    go_wp2_with fail
    refine (B.out _).mono ?_
    rintro e W ⟨rfl,m⟩;have h:=hideS m;clear m
    go_wp2_with fail
    refine (E.out _).mono ?_
    rintro e X ⟨rfl,y⟩;have q:=hideS (h.out.trans (y.mono h.out.size));have r:=hideS (own_below g.out q.out);have o:=hideS (U.out.trans (q.out.mono L));have n:=o.out.size;clear y h g
    go_wp2_with (at_builtin;refine wpList_append_own _ rfl _ _ 33 rfl w.heap.size 41 i0 (.int .u64 0) 1 8 Tryz.underlying33 hi T S Q rfl (by decide) _ _ _ rfl (r.out.alloc _) ⟨X.heap.size,0,none⟩ 1 1 [.int .u64 O] rfl rfl ?c1 ?c2 ?c3 ?c4 ?c5 ?_)
    case c1=>
     intro j u l
     match j,l with
     | 0,l=>simp at l;subst l;simp [Addr.add]
    case c2=>intro u R;simp at R;subst R;rfl
    case c3=>unfold maxLen;omega
    case c4=>omega
    case c5=>simp;omega
    ·intro v' w3 b c _;have d:=r.out.lt;have t:Below w.heap.size w w3:=(o.out.alloc n _).grown c (by simp;omega) (fun j l=>(d j l).1)
     rw [<- P.out,show Value.int IntKind.u64 (x:Int)=uV x from rfl,<- Y.out] at b
     have Z:=hideS b;have I:=hideS t;clear b c d t;go_wp2
     go_roundw
     case rel=>exact⟨k+1,_,by omega,by simp,rfl,F,Z,I⟩
     case measure=>simp [intOf];omega
  ·obtain rfl:k=14:=by omega
   go_wp2
   go_ret
   have h1:=g.out;rw [show (14:Nat)=expL.length from expL_len.symm,rowOf_all] at h1
   exact⟨_,rfl,⟨h1⟩,U.out⟩
theorem MD (r:Nat):fZ (r:Int)=(mg r:Int):=by
 unfold fZ mg
 by_cases c:r<4503599627370496
 ·rw [if_pos c,if_pos (by omega)]
 ·rw [if_neg c,if_neg (by omega)];omega
theorem ME (r:Nat):kw (r:Int)= -1074+(pl r:Int):=by
 unfold kw pl
 by_cases c:r<4503599627370496
 ·rw [if_pos (by omega)];omega
 ·rw [if_neg (by omega)];omega
theorem xX {p:Nat} {neg:Bool} {N:Nat} {e:Int} (h:OfR p neg N e) (f:p<18446744073709551616) (hn:af p) (c:N≠0):aA (p:Int)=sg neg N/\aQ (p:Int)=e/\neg=sB p:=by
 obtain⟨g,j⟩:=h.mag c;have a:=dR p;unfold af at hn
 have b:az (p:Int)=true:=by unfold az;rw [a];simp;omega
 have d:p % 9223372036854775808≠0:=by
  intro i;rw [i] at g;exact c (by rw [g];decide)
 refine⟨?_,?_,h.sgn c⟩
 ·unfold aA;rw [b,if_pos rfl,a,MD,<- g,fQ f,<- h.sgn c]
  rfl
 ·unfold aQ;rw [b,a,ME,<- j,show decide (((p % 9223372036854775808:Nat):Int)≠0)=true by simpa using fun h=>d (by omega)]
  rfl
theorem MF {p:Nat} {neg:Bool} {N:Nat} {e k:Int} (h:OfR p neg N e) (c:p<18446744073709551616) (hn:af p) (d:0<=vI p):bJ neg N (e+k) false=(aJ (aA p) (aQ p+k):Int):=by
 by_cases b:N=0
 ·have g:p % 9223372036854775808=0:=by
   have:=h.val;rw [b,Nat.zero_mul] at this
   exact lD this.symm
  have i:aA (p:Int)=0:=by
   unfold aA;rw [dR,g];unfold fZ
   split
   ·split<;>simp
   ·rfl
  rw [i,b]
  rfl
 ·obtain⟨j,l,f⟩:=xX h c hn b;have a:neg=false:=by
   cases a:neg with
   | false=>rfl
   | true=>
    exfalso
    have m:aV p≠0:=by
     rw [<- h.val];have:=Nat.mul_pos (show 0<N by omega) (Nat.two_pow_pos (e+1074).toNat);omega
    rw [wX,<- f,a] at d
    unfold sg at d;simp at d;omega
  rw [j,l,a,fw false _ b,if_neg (by decide)]
  unfold sg aJ;simp only [Bool.false_eq_true,if_false];rw [if_neg (by omega),if_neg (by omega),Int.natAbs_natCast];omega
theorem AZ (u:Int) (w:World) (h:U64 u) (hn:ah u=true) :
  Calls Tryz.prog 64 #[.int .u64 u] w fun e a=>e=.returned (.int .u64 9221120237041090561)/\Below w.heap.size w a:=by
 have H:=hideS (aj u w h);rw [hn] at H
 clear h hn
 go_enter Tryz.func64,Tryz.ntmps64
 go_wp2_with fail
 refine (turned H.out).mono ?_
 rintro e a ⟨rfl,rfl⟩
 go_wp2_with fail
 go_ret
 exact⟨rfl,Below.refl _ _⟩
theorem dN (n z:Int) (w:World) (b: -9223372036854775808<=n) (c:n<=9223372036854775807) (d:(fi n:Int)=z) :
  Calls Tryz.prog 101 #[.int .i64 n] w fun e a=>e=.returned (.int .u64 z)/\Below w.heap.size w a:=by
 rw [<- d];exact cV n w b c
theorem EV (u:Int) (w:World) (h:U64 u) (hn:ah u=false) (b:decide (ae u<ae 4649456441864749056)=false) :
  Calls Tryz.prog 64 #[.int .u64 u] w fun e a=>e=.returned (.int .u64 9218868437227405312)/\Below w.heap.size w a:=by
 have H:=hideS (aj u w h);have d:=hideS fun w=>dN 710 4649456441864749056 w (by omega) (by omega) (by rw [MC];rfl)
 have f:=hideS fun w=>gC u 4649456441864749056 false w h (by unfold U64;omega) hn (by decide) b
 rw [hn] at H
 clear h hn b
 go_enter Tryz.func64,Tryz.ntmps64
 go_wp2_with fail
 refine (turned H.out).mono ?_
 rintro e a ⟨rfl,rfl⟩
 go_wp2_with fail
 refine (d.out _).mono ?_
 rintro e i ⟨rfl,c⟩;have g:=hideS c;clear c
 go_wp2_with fail
 refine (f.out _).mono ?_
 rintro e a ⟨rfl,rfl⟩
 go_wp2_with fail
 go_ret
 exact⟨rfl,g.out⟩
theorem EW (u:Int) (w:World) (h:U64 u) (hn:ah u=false) (i:decide (ae u<ae 4649456441864749056)=true) (a:decide (ae 13873145138068324352<ae u)=false) :
  Calls Tryz.prog 64 #[.int .u64 u] w fun e c=>e=.returned (.int .u64 0)/\Below w.heap.size w c:=by
 have H:=hideS (aj u w h);have k:=hideS fun w=>dN 710 4649456441864749056 w (by omega) (by omega) (by rw [MC];rfl)
 have l:=hideS fun w=>gC u 4649456441864749056 true w h (by unfold U64;omega) hn (by decide) i
 have g:=hideS fun w=>dN (-746) 13873145138068324352 w (by omega) (by omega) (by rw [OX];rfl)
 have f:=hideS fun w=>gC 13873145138068324352 u false w (by unfold U64;omega) h (by decide) hn a
 rw [hn] at H
 clear h hn i a
 go_enter Tryz.func64,Tryz.ntmps64
 go_wp2_with fail
 refine (turned H.out).mono ?_
 rintro e c ⟨rfl,rfl⟩
 go_wp2_with fail
 refine (k.out _).mono ?_
 rintro e n ⟨rfl,b⟩;have j:=hideS b;clear b
 go_wp2_with fail
 refine (l.out _).mono ?_
 rintro e c ⟨rfl,rfl⟩
 go_wp2_with fail
 refine (g.out _).mono ?_
 rintro e m ⟨rfl,b⟩;have d:=hideS (j.out.trans (b.mono j.out.size));clear b
 go_wp2_with fail
 refine (f.out _).mono ?_
 rintro e c ⟨rfl,rfl⟩
 go_wp2_with fail
 go_ret
 exact⟨rfl,d.out⟩
theorem gf {op:BinOp} (a:op=.add\/op=.sub\/op=.mul\/op=.quo) {x y r:Nat} {z:Int} (h:floatBits op .f64 x y=some r) (b:z=(r:Int)):U64 z:=by rw [b];exact ag (jb a h)
theorem mR {x y r:Nat} {u v z:Int} (b:u=(x:Int)) (f:v=(y:Int)) (h:U64 u) (g:U64 v) (c:floatBits .mul .f64 x y=some r) (d:z=(r:Int)) (w:World) :
  Calls Tryz.prog 63 #[.int .u64 u,.int .u64 v] w fun e a=>e=.returned (.int .u64 z)/\Below w.heap.size w a:=by
 have:=cU x y u v w b f h g;rw [c,ar,<- d] at this;exact this
theorem Jd {x y r:Nat} {u v z:Int} (b:u=(x:Int)) (f:v=(y:Int)) (h:U64 u) (g:U64 v) (c:floatBits .add .f64 x y=some r) (d:z=(r:Int)) (w:World) :
  Calls Tryz.prog 50 #[.int .u64 u,.int .u64 v] w fun e a=>e=.returned (.int .u64 z)/\Below w.heap.size w a:=by
 have:=fA x y u v w b f h g;rw [c,ar,<- d] at this;exact this
theorem Ba {x y r:Nat} {u v z:Int} (b:u=(x:Int)) (f:v=(y:Int)) (h:U64 u) (g:U64 v) (c:floatBits .sub .f64 x y=some r) (d:z=(r:Int)) (w:World) :
  Calls Tryz.prog 35 #[.int .u64 u,.int .u64 v] w fun e a=>e=.returned (.int .u64 z)/\Below w.heap.size w a:=by
 have:=kF x y u v w b f h g;rw [c,ar,<- d] at this;exact this
theorem Bb (x y t hi lo d r p:Nat) (u k f:Int) (K:Nat) (w:World) (hu:u=(x:Int)) (h:U64 u) (hn:ah u=false) (hl:decide (ae u<ae 4649456441864749056)=true) (O:decide (ae 13873145138068324352<ae u)=true)
  (q1:floatBits .mul .f64 x 4609176140021203710=some y) (q2:floatBits .add .f64 y 4602678819172646912=some t) (tn:af t) (hK:K=1074) (f1:k*((2^K:Nat):Int)<=vI t) (f2:vI t<(k+1)*((2^K:Nat):Int)) (k1: -2000<=k) (k2:k<=2000)
  (q3:floatBits .mul .f64 (fi k) 4604418534311723008=some hi) (q4:floatBits .mul .f64 (fi k) 4461442080421002358=some lo) (q5:floatBits .sub .f64 x hi=some d) (q6:floatBits .sub .f64 d lo=some r) (q7:bj expL r=some p) (pn:af p) (D:p<18446744073709551616) (pv:0<=vI p) (n:(aJ (aA p) (aQ p+k):Int)=f) :
  Calls Tryz.prog 64 #[.int .u64 u] w fun e q=>e=.returned (.int .u64 f)/\Below w.heap.size w q:=by
 have H:=hideS (aj u w h);have HI:=hideS fun w=>dN 710 4649456441864749056 w (by omega) (by omega) (by rw [MC];rfl)
 have HL:=hideS fun w=>gC u 4649456441864749056 true w h (by unfold U64;omega) hn (by decide) hl
 have ak:=hideS fun w=>dN (-746) 13873145138068324352 w (by omega) (by omega) (by rw [OX];rfl)
 have ad:=hideS fun w=>gC 13873145138068324352 u true w (by unfold U64;omega) h (by decide) hn O
 rw [hn] at H
 obtain⟨yi,Y⟩:∃ yi:Int,yi=(y:Int):=⟨_,rfl⟩;obtain⟨X,T⟩:∃ X:Int,X=(t:Int):=⟨_,rfl⟩;obtain⟨fz,Q⟩:∃ fz:Int,fz=(fi k:Int):=⟨_,rfl⟩;obtain⟨G,i⟩:∃ G:Int,G=(hi:Int):=⟨_,rfl⟩;obtain⟨L,g⟩:∃ L:Int,L=(lo:Int):=⟨_,rfl⟩;obtain⟨di,U⟩:∃ di:Int,di=(d:Int):=⟨_,rfl⟩;obtain⟨M,S⟩:∃ M:Int,M=(r:Int):=⟨_,rfl⟩;obtain⟨Z,W⟩:∃ Z:Int,Z=(p:Int):=⟨_,rfl⟩;have uf:U64 fz:=by rw [Q];exact ag (wV (a:=k) rfl (by omega) (by omega)).2.2.2
 have M1:=hideS fun w=>mR (z:=yi) hu (v:=4609176140021203710) rfl h (by unfold U64;omega) q1 Y w
 have A1:=hideS fun w=>Jd (z:=X) Y (v:=4602678819172646912) rfl (gf (by simp) q1 Y) (by unfold U64;omega) q2 T w
 have FL:=hideS fun w=>xg t X k K w T (gf (by simp) q2 T) tn hK f1 f2 k1 k2
 have IK:=hideS fun w=>dN k fz w (by omega) (by omega) Q.symm
 have M2:=hideS fun w=>mR (z:=G) Q (v:=4604418534311723008) rfl uf (by unfold U64;omega) q3 i w
 have S1:=hideS fun w=>Ba (z:=di) hu i h (gf (by simp) q3 i) q5 U w
 have M3:=hideS fun w=>mR (z:=L) Q (v:=4461442080421002358) rfl uf (by unfold U64;omega) q4 g w
 have S2:=hideS fun w=>Ba (z:=M) U g (gf (by simp) q5 U) (gf (by simp) q4 g) q6 S w
 have HH:Hid (∀ B v w,OwnF w B 41 uV v expL->Calls Tryz.prog 103 #[v,.int .u64 M] w fun e q=>e=.returned (.int .u64 Z)/\Below w.heap.size w q):=fun B v w R=>by
  have:=km B 14 r v M expL w R Jc S (gf (by simp) q6 S) expL_len (by decide)
  rw [q7,ar,<- W] at this;exact this
 have HO:=hideS fun w=>eC p Z w W (by rw [W];exact ag D) pn
 have o:Hid (∀ neg N e,OfR p neg N e->bJ neg N (e+k) false=f/\N<9007199254740992/\-1074<=e/\e<=971):=fun neg N e V=>⟨by rw [<- n];exact MF V D pn pv,V.lt,V.lo,V.hi⟩
 clear h hn hl O hu q1 q2 tn hK f1 f2 q3 q4 q5 q6 q7 pn D pv n Y T Q i g U S W uf
 go_enter Tryz.func64,Tryz.ntmps64
 go_wp2_with fail
 refine (turned H.out).mono ?_
 rintro e q ⟨rfl,rfl⟩
 go_wp2_with fail
 refine (HI.out _).mono ?_
 rintro e w1 ⟨rfl,b⟩;have B1:=hideS b;clear b
 go_wp2_with fail
 refine (HL.out _).mono ?_
 rintro e q ⟨rfl,rfl⟩
 go_wp2_with fail
 refine (ak.out _).mono ?_
 rintro e w2 ⟨rfl,b⟩;have B2:=hideS (B1.out.trans (b.mono B1.out.size));clear b B1
 go_wp2_with fail
 refine (ad.out _).mono ?_
 rintro e q ⟨rfl,rfl⟩
 go_wp2_with fail
 refine (M1.out _).mono ?_
 rintro e w3 ⟨rfl,b⟩;have B3:=hideS (B2.out.trans (b.mono B2.out.size));clear b B2
 go_wp2_with fail
 refine (A1.out _).mono ?_
 rintro e w4 ⟨rfl,b⟩;have B4:=hideS (B3.out.trans (b.mono B3.out.size));clear b B3
 go_wp2_with fail
 refine (FL.out _).mono ?_
 rintro e w5 ⟨rfl,b⟩;have B5:=hideS (B4.out.trans (b.mono B4.out.size));clear b B4
 go_wp2_with fail
 refine (IK.out _).mono ?_
 rintro e w6 ⟨rfl,b⟩;have B6:=hideS (B5.out.trans (b.mono B5.out.size));clear b B5
 go_wp2_with fail
 refine (M2.out _).mono ?_
 rintro e w7 ⟨rfl,b⟩;have B7:=hideS (B6.out.trans (b.mono B6.out.size));clear b B6
 go_wp2_with fail
 refine (S1.out _).mono ?_
 rintro e w8 ⟨rfl,b⟩;have B8:=hideS (B7.out.trans (b.mono B7.out.size));clear b B7
 go_wp2_with fail
 refine (M3.out _).mono ?_
 rintro e w9 ⟨rfl,b⟩;have B9:=hideS (B8.out.trans (b.mono B8.out.size));clear b B8
 go_wp2_with fail
 refine (S2.out _).mono ?_
 rintro e al ⟨rfl,b⟩;have I:=hideS (B9.out.trans (b.mono B9.out.size));clear b B9
 go_wp2_with fail
 refine (EU _).mono ?_
 rintro e ba ⟨v,rfl,R,b⟩;have E:=hideS (I.out.trans (b.mono I.out.size));have m:=hideS (HH.out _ _ _ R);clear b I R HH
 go_wp2_with fail
 refine m.out.mono ?_
 rintro e am ⟨rfl,b⟩;have F:=hideS (E.out.trans (b.mono E.out.size));clear b E m
 go_wp2_with fail
 refine (HO.out _).mono ?_
 rintro e j ⟨neg,vx,N,C,rfl,s,hX,b⟩;obtain⟨P,l,c,rfl⟩:=s.shape;obtain⟨e1,e2,e3,e4⟩:=o.out neg N C hX;have A:=hideS (F.out.trans (b.mono F.out.size));have ai:Hid (Calls Tryz.prog 77 #[.agg #[.bool neg,.slice P l c,.int .i64 (C+k)]] (boxN j neg (.slice P l c) (C+k)) fun x q=>x=.returned (.int .u64 f)/\Below (boxN j neg (.slice P l c) (C+k)).heap.size (boxN j neg (.slice P l c) (C+k)) q):=by
  rw [<- e1];exact gv neg _ (C+k) N _ (s.below (aE _ _ _ _)) (by have:=dr e2;omega) (by omega) (by omega)
 have J:=hideS (A.out.trans ((aE j neg (.slice P l c) (C+k)).mono A.out.size));clear b F s hX e1 e2 o A
 go_wp2_with fail
 refine ai.out.mono ?_
 rintro e bb ⟨rfl,b⟩;have ab:=hideS (J.out.trans (b.mono J.out.size));clear b J
 go_wp2_with fail
 go_ret
 exact⟨rfl,ab.out⟩
theorem Qr {o:Option Nat} {r:Nat} (h:Ag o r) (a:∀ q,o=some q->q<18446744073709551616):r<18446744073709551616:=by
 cases o with
 | none=>exact (ik h).2
 | some q=>rw [cR h];exact a q rfl
structure Both (f g:Nat) (x:Nat) (u:Int) (y:Nat) (z:Int):Prop where
 prog:∀ w,Calls Tryz.prog f #[.float .f64 x] w fun e w'=>e=.returned (.float .f64 y)/\Below w.heap.size w w'
 doc:∀ w,Calls Tryz.prog g #[.int .u64 u] w fun e w'=>e=.returned (.int .u64 z)/\Below w.heap.size w w'
 same:eV (y:Int) z=true
 uy:U64 (y:Int)
 uz:U64 z
theorem qz {f:Nat} {args:Array Value} {v:Value} {w:World} (h:Calls Tryz.prog f args w fun e c=>e=.returned v/\c=w):Calls Tryz.prog f args w fun e c=>e=.returned v/\Below w.heap.size w c:=
 h.mono fun _ _ ⟨a,b⟩=>⟨a,by rw [b];exact Below.refl _ _⟩
theorem EY {y:Nat} {z:Int} (h:z=(y:Int)):eV (y:Int) z=true:=by rw [h];exact gV _
theorem xZ (m e:Int):aJ m e<18446744073709551616:=by
 unfold aJ;have a:=iZ m.natAbs e
 split
 ·decide
 ·split<;>omega
theorem EZ (x:Nat) (u:Int) (e:u=(x:Int)) (h:U64 x):∃ y z,Both 54 64 x u y z/\(ah (x:Int)=true->z=9221120237041090561)/\(ah (x:Int)=false->y<=9218868437227405312/\z=(y:Int)):=by
 have c:x<18446744073709551616:=by have:=h.2;omega
 have A:U64 u:=by rw [e];exact h
 cases b:ah (x:Int) with
 | true=>exact⟨x,9221120237041090561,⟨fun w=>qz (MA x w h b),fun w=>AZ u w A (by rw [e];exact b),DC b pI,h,by unfold U64;omega⟩,fun _=>rfl,fun a=>by cases a⟩
 | false=>
  have f:ah u=false:=by rw [e];exact b
  have R:U64 ((4649456441864749056:Nat):Int):=by unfold U64;omega
  have u2:U64 ((13873145138068324352:Nat):Int):=by unfold U64;omega
  have Q:ah ((4649456441864749056:Nat):Int)=false:=by decide+kernel
  have X:ah ((13873145138068324352:Nat):Int)=false:=by decide+kernel
  have F:=lL h R b Q;have G:=eI h R b Q;have C:=jB h u2 b X;have D:=eI h u2 b X;have v:ae ((4649456441864749056:Nat):Int)=4649456441864749056:=by decide+kernel
  have q:ae ((13873145138068324352:Nat):Int)= -4649773101213548544:=by decide+kernel
  have n:ae (4649456441864749056:Int)=4649456441864749056:=by decide+kernel
  have l:ae (13873145138068324352:Int)= -4649773101213548544:=by decide+kernel
  rw [v] at F G
  rw [q] at C D
  by_cases c1:4649456441864749056<=ae (x:Int)
  ·refine⟨9218868437227405312,9218868437227405312,⟨fun w=>qz (OU x _ _ w h b F G ?_),fun w=>EV u w A f ?_,rfl,by unfold U64;omega,by unfold U64;omega⟩,fun a=>(by cases a),fun _=>⟨Nat.le_refl _,rfl⟩⟩
   ·simp only [Bool.or_eq_true,decide_eq_true_eq];omega
   ·rw [n,e,decide_eq_false_iff_not];omega
  have P:(FloatKind.f64.format.order x 4649456441864749056==some .gt)=false:=by rw [F,decide_eq_false_iff_not];omega
  have f2:(FloatKind.f64.format.order x 4649456441864749056==some .eq)=false:=by rw [G,decide_eq_false_iff_not];omega
  have J:decide (ae u<ae 4649456441864749056)=true:=by rw [n,e,decide_eq_true_eq];omega
  by_cases c2:ae (x:Int)<=-4649773101213548544
  ·refine⟨0,0,⟨fun w=>qz (OV x _ _ w h b P f2 C D ?_),fun w=>EW u w A f J ?_,rfl,by unfold U64;omega,by unfold U64;omega⟩,fun a=>(by cases a),fun _=>⟨Nat.zero_le _,rfl⟩⟩
   ·simp only [Bool.or_eq_true,decide_eq_true_eq];omega
   ·rw [l,e,decide_eq_false_iff_not];omega
  have f3:(FloatKind.f64.format.order x 13873145138068324352==some .lt)=false:=by rw [C,decide_eq_false_iff_not];omega
  have f4:(FloatKind.f64.format.order x 13873145138068324352==some .eq)=false:=by rw [D,decide_eq_false_iff_not];omega
  have d2:decide (ae 13873145138068324352<ae u)=true:=by rw [l,e,decide_eq_true_eq];omega
  obtain⟨K,g,o⟩:=Qq;have j:af x:=by
   have hl:=eN b;rw [<- bW c b] at c1 c2
   unfold af;unfold sgn at c1 c2
   generalize x % 9223372036854775808=r at *
   generalize (x / 9223372036854775808 % 2==1)=s at c1 c2
   cases s<;>simp only [Bool.false_eq_true,if_true,if_false] at c1 c2<;>omega
  obtain⟨N,V,w3⟩:=lO o (m:=710) (by decide) (by decide)
  obtain⟨O,U,Y⟩:=lO o (m:=-746) (by decide) (by decide)
  rw [MC] at N V w3
  rw [OX] at O U Y
  have b1:=qu j V c w3 (by rw [v];omega)
  have b2:=qu U j Y c (by rw [q];omega)
  rw [N] at b1
  rw [O] at b2
  obtain⟨y,t,hi,lo,d,r,k,q1,W,S,q3,B,E,I,H,Z,M,q6,T,rn,_,v,q⟩:=ER o j (by omega) (by omega)
  obtain⟨p,p0,L,i,pv⟩:=IX o rn v q;obtain⟨s1,s2,s3,s4⟩:=OW L i pv;refine⟨aJ (aA p) (aQ p+k),(aJ (aA p) (aQ p+k):Int),⟨fun w=>lM x y t (fi k) hi lo d r p k w h b P f2 f3 f4 q1 W (fun w=>lK t _ w S q3) Z M q6 T p0 (ag i) (IZ I H) ⟨I,H⟩ ⟨s3,s4⟩ (MB s1 s2),fun w=>Bb x y t hi lo d r p u k _ K w e A f J d2 q1 W S o.k B E I H Z M q6 T p0 L i pv rfl,EY rfl,ag (xZ _ _),ag (xZ _ _)⟩,fun a=>(by cases a),fun _=>⟨IY s1,rfl⟩⟩
theorem Je {cs:List Nat} {x:Nat} (b:ah (x:Int)=true) (c:2<=cs.length):bj cs x=none:=by
 obtain⟨k,a⟩:∃ k,cs.length - 1=k+1:=⟨cs.length - 2,by omega⟩
 unfold bj;rw [if_neg (by omega),a]
 show fR x (hornAt cs x k) _=none
 unfold fR;cases hornAt cs x k with
 | none=>rfl
 | some p=>
  show (floatBits .mul .f64 p x).bind _=none
  rw [eR b];rfl
theorem Di {cs:List Nat} {z:Option Nat} {x:Nat} (h:Ag z x) (a:2<=cs.length):(z.bind fun z=>bj cs z)=bj cs x:=by
 cases z with
 | none=>rw [Je (ik h).1 a];rfl
 | some r=>rw [cR h];rfl
def lnO (a b hi lo:Nat):Option Nat:=
 opO .add (some hi) (opO .add (opO .mul (opO .mul (some 4611686018427387904) (floatBits .quo .f64 a b)) ((opO .mul (floatBits .quo .f64 a b) (floatBits .quo .f64 a b)).bind fun z=>bj lnL z)) (some lo))
theorem lnL_len:lnL.length=11:=by decide
theorem Jf {a b hi lo s e z h v c r:Nat} (d:Ag (floatBits .quo .f64 a b) s) (p:Ag (floatBits .mul .f64 4611686018427387904 s) e) (q:Ag (floatBits .mul .f64 s s) z) (j:Ag (bj lnL z) h) (i:Ag (floatBits .mul .f64 e h) v) (g:Ag (floatBits .add .f64 v lo) c) (f:Ag (floatBits .add .f64 hi c) r):Ag (lnO a b hi lo) r:=by
 unfold lnO;have u:Ag (some 4611686018427387904) 4611686018427387904:=rfl;have k:Ag (opO .mul (some 4611686018427387904) (floatBits .quo .f64 a b)) e:=by rw [mG u d];exact p
 have l:Ag (opO .mul (floatBits .quo .f64 a b) (floatBits .quo .f64 a b)) z:=by rw [mG d d];exact q
 have m:Ag ((opO .mul (floatBits .quo .f64 a b) (floatBits .quo .f64 a b)).bind fun z=>bj lnL z) h:=by rw [Di l (by rw [lnL_len];decide)];exact j
 have w:Ag (opO .mul (opO .mul (some 4611686018427387904) (floatBits .quo .f64 a b)) ((opO .mul (floatBits .quo .f64 a b) (floatBits .quo .f64 a b)).bind fun z=>bj lnL z)) v:=by rw [mG k m];exact i
 have t:=mG (op:=.add) (o':=some lo) (c:=lo) w rfl;rw [<- t] at g
 have n:=mG (op:=.add) (o:=some hi) (a:=hi) rfl g;rw [<- n] at f
 exact f
theorem Qs (x m a b A hi lo:Nat) (k:Int) (w:World) (h:U64 x) (hn:ah x=false) (hl:(FloatKind.f64.format.order x 0==some .lt)=false) (he:(FloatKind.f64.format.order x 0==some .eq)=false) (p:(FloatKind.f64.format.order x 9218868437227405311==some .gt)=false)
  (hA:Hid (∀ w,Calls Tryz.prog 229 #[.float .f64 x] w fun r d=>r=.returned (.tuple #[.float .f64 m,.int .i64 k])/\∃ q,d=w.drewN q))
  (M:floatBits .sub .f64 m 4607182418800017408=some a) (V:floatBits .add .f64 m 4607182418800017408=some b) (t:fi k=A) (F:floatBits .mul .f64 A 4604418534311723008=some hi) (J:floatBits .mul .f64 A 4461442080421002358=some lo) :
  Calls Tryz.prog 223 #[.float .f64 x] w fun e d=>∃ r,e=.returned (.float .f64 r)/\Ag (lnO a b hi lo) r/\Below w.heap.size w d:=by
 have H:=hideS (be x w h);rw [hn] at H
 have O:=hideS (mS x false w p);have r1:=fun w=>run_float_arith (P:=Tryz.prog) w .sub 27 .f64 _ _ _ M
 have r2:=fun w=>run_float_arith (P:=Tryz.prog) w .add 27 .f64 _ _ _ V
 have ab:=(bE k).trans t;have HL:Hid (∀ w,Calls Tryz.prog 82 #[.float .f64 A] w fun e d=>e=.returned (.tuple #[.float .f64 hi,.float .f64 lo])/\d=w):=fun w=>Dh A hi lo w F J
 clear h hn M V F J p t
 go_enter Tryz.func223,Tryz.ntmps223
 go_wp2_with fail
 refine (turned H.out).mono ?_
 rintro e d ⟨rfl,rfl⟩;clear H
 go_wp2_with fail
 refine (turned O.out).mono ?_
 rintro e d ⟨rfl,rfl⟩;clear O
 go_wp2_with fail
 refine (hA.out _).mono ?_
 rintro e d ⟨rfl,q,C⟩;have j:Hid (Below w.heap.size w d):=by rw [C];exact⟨rfl,rfl,rfl,Nat.le_refl _,fun _ _=>rfl⟩
 clear C;obtain⟨s,⟨N,r3⟩,g3⟩:=dM .quo (by simp) 27 a b d
 obtain⟨s2,⟨q4,r4⟩,Q⟩:=dM .mul (by simp) 27 4611686018427387904 s (d.drewN N)
 have L:=hideS g3;have T:=hideS Q;clear g3 Q
 go_wp2_with fail
 obtain⟨n,g⟩:∃ n,n=d.drewN (N+q4):=⟨_,rfl⟩;rw [<- g];have I:Hid (Below w.heap.size w n):=by rw [g];exact⟨j.out.os,j.out.tape,j.out.output,j.out.size,j.out.block⟩
 clear g r3 r4 j;have W:=hideS (xQ n);refine W.out.mono ?_
 rintro e E ⟨rfl,Y,Z⟩;have i:Hid (Below w.heap.size w E):=I.out.trans (Z.mono I.out.size);obtain⟨z,⟨G,r5⟩,X⟩:=dM .mul (by simp) 27 s s E
 have K:Hid (Calls Tryz.prog 83 #[.slice (some ⟨n.heap.size,0,none⟩) 11 11,.float .f64 z] (E.drewN G) fun e y=>∃ r',e=.returned (.float .f64 r')/\Ag (bj lnL z) r'/\∃ q,y=(E.drewN G).drewN q):=pG _ n.heap.size 0 11 z 11 lnL (E.drewN G) (Y.below ⟨rfl,rfl,rfl,Nat.le_refl _,fun _ _=>rfl⟩) rfl (by decide)
 have S:=hideS X;clear Y Z W I X
 go_wp2_with fail
 refine K.out.mono ?_
 rintro e y ⟨h',rfl,B,q6,D⟩;have l:Hid (Below w.heap.size w y):=by rw [D];exact⟨i.out.os,i.out.tape,i.out.output,i.out.size,i.out.block⟩
 obtain⟨v,⟨q7,r7⟩,g7⟩:=dM .mul (by simp) 27 s2 h' y
 have R:=hideS B;have U:=hideS g7;clear B g7 D K i r5
 go_wp2_with fail
 obtain⟨u,f⟩:∃ u,u=y.drewN q7:=⟨_,rfl⟩;rw [<- f];have o:Hid (Below w.heap.size w u):=by rw [f];exact⟨l.out.os,l.out.tape,l.out.output,l.out.size,l.out.block⟩
 clear f r7 l;refine (turned (HL.out _)).mono ?_
 rintro e d ⟨rfl,rfl⟩;obtain⟨c,⟨F,r8⟩,g8⟩:=dM .add (by simp) 27 v lo u
 obtain⟨r,⟨J,r9⟩,g9⟩:=dM .add (by simp) 27 hi c (u.drewN F)
 have GE:=hideS (Jf L.out T.out S.out R.out U.out g8 g9);clear g8 g9 L T S R U
 go_wp2_with fail
 go_ret
 exact⟨r,rfl,GE.out,⟨o.out.os,o.out.tape,o.out.output,o.out.size,o.out.block⟩⟩
def oneB (N:Nat):Nat:=4602678819172646912+N*2^(52 - N.log2)
theorem qA {N:Nat} (c:N≠0) (h:N<9007199254740992):4503599627370496<=N*2^(52 - N.log2)/\N*2^(52 - N.log2)<9007199254740992:=by
 have d:N.log2<=52:=by have:=(Nat.log2_lt c).2 (show N<2^53 from h);omega
 have a:=Nat.log2_self_le c;have b:N<2^(N.log2+1):=Nat.lt_log2_self;constructor
 ·have:=Nat.mul_le_mul_right (2^(52 - N.log2)) a;rw [<- Nat.pow_add,show N.log2+(52 - N.log2)=52 by omega] at this;exact this
 ·have:=Nat.mul_lt_mul_of_pos_right b (Nat.two_pow_pos (52 - N.log2));rw [<- Nat.pow_add,show N.log2+1+(52 - N.log2)=53 by omega] at this;exact this
theorem tw {N:Nat} (a:N≠0) (h:N<9007199254740992):nearR N (-(N.log2:Int))=oneB N:=by
 have d:N.log2<=52:=by have:=(Nat.log2_lt a).2 (show N<2^53 from h);omega
 obtain⟨f,g⟩:=qA a h;have e:=bf a (52 - N.log2) (-(N.log2:Int));rw [show -(N.log2:Int) - ((52 - N.log2:Nat):Int)= -52 by omega] at e
 rw [<- e];unfold oneB;generalize N*2^(52 - N.log2)=k at *
 have c:mg (4602678819172646912+k)=k:=by unfold mg;rw [if_neg (by omega)];omega
 have b:pl (4602678819172646912+k)=1022:=by unfold pl;omega
 have:=oX (r:=4602678819172646912+k) (by omega) (by omega)
 rw [c,b] at this
 exact this
theorem lP {N:Nat} (a:N≠0) (h:N<9007199254740992):4607182418800017408<=oneB N/\oneB N<4611686018427387904:=by
 obtain⟨c,b⟩:=qA a h;unfold oneB;omega
theorem Jg {r:Nat} (h:9007199254740992<=r):V r=2*V (r - 4503599627370496)/\mg (r - 4503599627370496)=mg r/\pl r=pl (r - 4503599627370496)+1:=by
 have b:mg (r - 4503599627370496)=mg r:=by unfold mg;rw [if_neg (by omega),if_neg (by omega)];omega
 have a:pl r=pl (r - 4503599627370496)+1:=by unfold pl;omega
 refine⟨?_,b,a⟩
 unfold V;rw [b,a,Nat.pow_succ,<- Nat.mul_assoc,Nat.mul_comm]
theorem Bc {v K:Nat} (h:v≠0):v*2^K≠0:=Nat.mul_ne_zero h (Nat.pos_iff_ne_zero.1 (Nat.two_pow_pos K))
theorem tx (x:Nat):wrd (false^^false) x=x:=rfl
theorem Jh {r:Nat} (h:9007199254740992<=r) (n:r<9218868437227405312):floatBits .mul .f64 r 4602678819172646912=some (r - 4503599627370496):=by
 obtain⟨K,m⟩:∃ K:Nat,K=1074:=⟨_,rfl⟩;have d:P2 (-1)=4602678819172646912:=by decide+kernel
 obtain⟨c,a,_⟩:=Hl (k:=-1) (by omega) (by omega)
 have b:=Qf (k:=-1) (by omega) (by omega)
 rw [d] at c a b
 have f:af r:=by unfold af;omega
 rw [fP f c,a,b];refine congrArg some ?_
 have i:sB r=false:=by unfold sB;rw [show r / 9223372036854775808=0 by omega];rfl
 have l:aV r=V r:=by unfold aV;rw [Nat.mod_eq_of_lt (by omega)]
 have g:V r*2^((-1:Int)+1074).toNat=V (r - 4503599627370496)*2^K:=by
  rw [(Jg h).1,show ((-1:Int)+1074).toNat=K - 1 by omega,show K=(K - 1)+1 by omega,Nat.pow_succ,Nat.add_sub_cancel,Nat.mul_comm 2,Nat.mul_assoc,Nat.mul_comm 2]
 rw [l,g,i];unfold mulR;have j:V (r - 4503599627370496)≠0:=fun e=>by have:=lD e;omega
 rw [if_neg (Bc j)];have:=jK (r:=r - 4503599627370496) (by omega) K
 rw [show (-1074 - (K:Int))= -2148 by omega] at this
 rw [this];exact tx _
theorem Ji {r:Nat} (h:9007199254740992<=r) (s:r<9218868437227405312):floatBits .quo .f64 r 4611686018427387904=some (r - 4503599627370496):=by
 have n:af r:=by unfold af;omega
 have i:r % 9223372036854775808=r:=Nat.mod_eq_of_lt (by omega)
 have a:mg r≠0:=fy (by omega)
 have b:4503599627370496<=mg r:=CA (by omega)
 have l:52<=(mg r).log2:=(Nat.le_log2 a).2 b;have q:mg (4611686018427387904 % 9223372036854775808)=4503599627370496:=by decide
 have c:pl (4611686018427387904 % 9223372036854775808)=1023:=by decide
 have f:Nat.log2 4503599627370496=52:=by decide
 have e:=jL (x:=r) (y:=4611686018427387904) n (by unfold af;decide) (by omega) (by decide) (X:=mg r) (Y:=4503599627370496) (ex:=-1074+(pl r:Int)) (ey:=-51) (by rw [i]) q.symm (by rw [i]) (by rw [c];rfl) (k:=54) (by rw [f];omega)
 rw [e];refine congrArg some ?_
 have j:aP (mg r) 4503599627370496 54=mg r*2^3:=by
  unfold aP;rw [show (2:Nat)^54=4*4503599627370496 from rfl,<- Nat.mul_assoc,Nat.mul_div_cancel _ (by decide),Nat.mul_mod_left,if_pos rfl];omega
 have p:sB r=false:=by unfold sB;rw [show r / 9223372036854775808=0 by omega];rfl
 have d:sB 4611686018427387904=false:=by decide
 rw [j,p,d];obtain⟨t,m,o⟩:=Jg h;have g:=bf a 3 (-1074+(pl r:Int) - 1);rw [show -1074+(pl r:Int) - 1 - ((3:Nat):Int)= -1074+(pl r:Int) - -51 - 1 - ((54:Nat):Int) by omega] at g
 rw [g,<- m,o,show -1074+((pl (r - 4503599627370496)+1:Nat):Int) - 1= -1074+(pl (r - 4503599627370496):Int) by omega,oX (by omega) (by omega)]
 exact tx _
def lnM (N:Nat):Nat:=if 4609047870845172685<oneB N then oneB N - 4503599627370496 else oneB N
def lnK (N:Nat) (e:Int):Int:=if 4609047870845172685<oneB N then e+(N.log2:Int)+1 else e+(N.log2:Int)
theorem Dj {N:Nat} (c:N≠0) (h:N<9007199254740992):af (lnM N)/\lnM N<9218868437227405312:=by
 obtain⟨a,b⟩:=lP c h;unfold lnM af
 split<;>omega
theorem MI {m:Nat} (h:m<9218868437227405312):(FloatKind.f64.format.order m 4609047870845172685==some .gt)=decide (4609047870845172685<m):=by
 have d:U64 (m:Int):=by unfold U64;omega
 have e:U64 ((4609047870845172685:Nat):Int):=by unfold U64;omega
 have c:=iE (b:=m) h;have a:=iE (b:=4609047870845172685) (by decide)
 rw [lL d e c.2.1 a.2.1,c.2.2,a.2.2];exact decide_eq_decide.2 (by omega)
theorem Be (x N:Nat) (e:Int) (h:U64 x) (hn:af x) (g:OfR x false N e) (d:N≠0) (w:World) :
  Calls Tryz.prog 229 #[.float .f64 x] w fun r a=>r=.returned (.tuple #[.float .f64 (lnM N),.int .i64 (lnK N e)])/\∃ q,a=w.drewN q:=by
 have f:x<18446744073709551616:=by have:=h.2;omega
 obtain⟨l,o,_⟩:=xX g f hn d;have b:=g.lt;have m:=g.lo;have p:=g.hi;have u:N.log2<=52:=by have:=(Nat.log2_lt d).2 (show N<2^53 from b);omega
 have k:Hid (∀ w,Calls Tryz.prog 85 #[.float .f64 x] w fun r a=>r=.returned (.tuple #[.int .i64 (N:Int),.int .i64 e,.bool (az (x:Int))])/\a=w):=fun w=>by
  have:=fu x x w rfl h;rw [l,o] at this;exact this
 have n:Hid (∀ w,Calls Tryz.prog 233 #[.int .u64 (N:Int)] w fun r a=>r=.returned (.int .i64 ((N.log2:Int)+1))/\a=w):=fun w=>by
  have:=Tryz.bits_Len (N:Int) w (by omega) (by omega)
  rw [Int.toNat_natCast,iV d (by omega)] at this
  exact this
 have j:Hid (∀ w,Calls Tryz.prog 86 #[.int .i64 (N:Int),.int .i64 (1 - ((N.log2:Int)+1))] w fun r a=>r=.returned (.float .f64 (oneB N))/\∃ q,a=w.drewN q):=fun w=>by
  have:=bX (N:Int) (1 - ((N.log2:Int)+1)) w (by omega) (by omega)
  have e:aJ (N:Int) (1 - ((N.log2:Int)+1))=oneB N:=by
   unfold aJ;rw [if_neg (by omega),if_neg (by omega),Int.natAbs_natCast,show 1 - ((N.log2:Int)+1)= -(N.log2:Int) by omega,tw d b]
  rw [e] at this;exact this
 obtain⟨s,t⟩:=lP d b;have:=EX x (oneB N) (oneB N - 4503599627370496) (N:Int) e ((N.log2:Int)+1) _ _ w k (by omega) (by omega) n (by omega) j (MI (by omega)) (Ji (by omega) (by omega))
 refine this.mono ?_
 rintro r a ⟨rfl,i⟩;refine⟨?_,i⟩
 unfold lnM lnK
 by_cases c:4609047870845172685<oneB N
 ·rw [if_pos c,if_pos c,decide_eq_true c];simp only [if_true];rw [show e+((N.log2:Int)+1)=e+(N.log2:Int)+1 by omega]
 ·rw [if_neg c,if_neg c,decide_eq_false c];simp only [Bool.false_eq_true,if_false];rw [show e+((N.log2:Int)+1) - 1=e+(N.log2:Int) by omega]
theorem Bf (op:BinOp) (o o':Option Nat):floatBits op .f64 (cn o) (cn o')=opO op o o':=(mG (Hu o) (Hu o')).symm
theorem qB {op:BinOp} (a:op=.add\/op=.sub\/op=.mul\/op=.quo) (o o':Option Nat):cn (opO op o o')<18446744073709551616:=by rw [<- Bf];exact xc a _ _
theorem Bg {o o':Option Nat} {u v z:Int} (b:u=(cn o:Int)) (d:v=(cn o':Int)) (h:U64 u) (f:U64 v) (c:z=(cn (opO .mul o o'):Int)) (w:World) :
  Calls Tryz.prog 63 #[.int .u64 u,.int .u64 v] w fun e a=>e=.returned (.int .u64 z)/\Below w.heap.size w a:=by
 have:=cU (cn o) (cn o') u v w b d h f;rw [Bf,<- c] at this;exact this
theorem Jj {o o':Option Nat} {u v z:Int} (b:u=(cn o:Int)) (d:v=(cn o':Int)) (h:U64 u) (f:U64 v) (c:z=(cn (opO .add o o'):Int)) (w:World) :
  Calls Tryz.prog 50 #[.int .u64 u,.int .u64 v] w fun e a=>e=.returned (.int .u64 z)/\Below w.heap.size w a:=by
 have:=fA (cn o) (cn o') u v w b d h f;rw [Bf,<- c] at this;exact this
end Go.Proofs.YtfdddijdjpijbaaGreat
