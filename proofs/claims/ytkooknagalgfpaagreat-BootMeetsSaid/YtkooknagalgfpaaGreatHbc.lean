/-  -/
import Derived.Test.YtkooknagalgfpaaGreatHbb
import Derived.Test.YtkooknagalgfpaaGreatNFrac
namespace Go.Proofs.YtkooknagalgfpaaGreat

theorem lh {M s:Nat} {p:Int} (h0:M≠0) (h:s+54≤M.log2):nearR (ct M s false) (s+p)=nearR M p:=by
 obtain⟨h1,_⟩:=dA false (show s≤M.log2 by omega) h0
 have hL:ak (ct M s false) (s+p)=ak M p:=by
  unfold ak;rw [h1];congr 1;omega
 have hL2:(s:Int)+p+2≤ak M p:=by unfold ak;omega
 unfold nearR
 rw [hL]
 obtain⟨d,hd⟩:∃ d:Nat,ak M p=s+p+d:=⟨(ak M p - (s+p)).toNat,by omega⟩
 have e1:((s:Int)+p - ak M p).toNat=0:=by omega
 have e2:(p - ak M p).toNat=0:=by omega
 have e3:(ak M p - (s+p)).toNat=d:=by omega
 have e4:(ak M p - p).toNat=d+s:=by omega
 rw [e1,e2,e3,e4,Nat.pow_zero,Nat.mul_one,Nat.mul_one]
 have hs:ct M s false=(if M % 2^s=0 then M / 2^s else (if M / 2^s % 2=1 then M / 2^s else M / 2^s+1)):=by unfold ct;simp only [and_true]
 rw [hs,oP (by omega)]
def aR (X Y k:Nat):Nat:=2*(X*2^k / Y)+(if X*2^k % Y=0 then 0 else 1)
theorem Id {q e T:Nat} {t:Nat} (hT:T=2^t) (he:e<2*T):ct (2*q*T+e) t false=2*q+(if e=0 then 0 else 1):=by
 have hp:0<T:=by rw [hT];exact Nat.two_pow_pos t
 unfold ct
 rw [← hT]
 have hd:(2*q*T+e) / T=2*q+e / T:=by rw [Nat.add_comm,Nat.add_mul_div_right _ _ hp,Nat.add_comm]
 have hm:(2*q*T+e) % T=e % T:=by rw [Nat.add_comm,Nat.add_mul_mod_self_right]
 rw [hd,hm]
 by_cases h0:e=0
 ·rw [h0,Nat.zero_mod,Nat.zero_div,if_pos ⟨rfl,rfl⟩,if_pos rfl]
 ·rw [if_neg h0]
  by_cases h1:e<T
  ·rw [Nat.mod_eq_of_lt h1,Nat.div_eq_of_lt h1,if_neg (fun h=>h0 h.1),if_neg (by omega)]
  ·have h2:e / T=1:=by
    have:=Nat.div_lt_iff_lt_mul hp (x:=e) (y:=2)
    have h3:e / T<2:=this.2 he
    have h4:1≤e / T:=(Nat.one_le_div_iff hp).2 (by omega)
    omega
   rw [h2]
   by_cases h3:e % T=0∧(false:Bool)=false
   ·rw [if_pos h3]
   ·rw [if_neg h3,if_pos (by omega)]
theorem Em {X Y:Nat} (k t:Nat) (hY:0<Y):ct (aR X Y (k+t)) t false=aR X Y k:=by
 obtain⟨T,hT⟩:∃ T,T=2^t:=⟨_,rfl⟩
 have hp:0<T:=by rw [hT];exact Nat.two_pow_pos t
 unfold aR
 rw [Nat.pow_add,← Nat.mul_assoc,← hT]
 generalize X*2^k=A
 have hA:=Nat.div_add_mod A Y
 have hr:A % Y<Y:=Nat.mod_lt _ hY
 generalize A / Y=q at *
 generalize A % Y=r at *
 have hAT:A*T=r*T+Y*(q*T):=by rw [← hA,Nat.add_mul,Nat.mul_assoc,Nat.add_comm]
 have hd:A*T / Y=q*T+r*T / Y:=by rw [hAT,Nat.add_mul_div_left _ _ hY,Nat.add_comm]
 have hm:A*T % Y=r*T % Y:=by rw [hAT,Nat.add_mul_mod_self_left]
 rw [hd,hm]
 have hc:r*T / Y<T:=by rw [Nat.div_lt_iff_lt_mul hY,Nat.mul_comm T];exact Nat.mul_lt_mul_of_pos_right hr hp
 have e1:=Nat.div_add_mod (r*T) Y
 have h5:r=0↔r*T=0:=by
  constructor
  ·intro h;rw [h,Nat.zero_mul]
  ·intro h;rcases Nat.mul_eq_zero.1 h with h | h<;>omega
 have e2:2*(q*T+r*T / Y)+(if r*T % Y=0 then 0 else 1)=2*q*T+(2*(r*T / Y)+(if r*T % Y=0 then 0 else 1)):=by rw [Nat.mul_add,← Nat.mul_assoc,Nat.add_assoc]
 rw [e2]
 generalize r*T / Y=c at *
 generalize r*T % Y=s at *
 generalize r*T=rt at *
 rw [Id hT (by split<;>omega)]
 congr 1
 by_cases h0:r=0
 ·have h6:rt=0:=h5.1 h0
  have h7:s=0:=by omega
  have h8:c=0:=by
   by_cases hcc:c=0
   ·exact hcc
   ·have:=Nat.mul_pos hY (show 0<c by omega);omega
  rw [if_pos h0,if_pos (by rw [h7,h8];rfl)]
 ·have h6:rt≠0:=fun h=>h0 (h5.2 h)
  rw [if_neg h0,if_neg]
  intro h
  by_cases hs:s=0
  ·rw [if_pos hs] at h
   have hc0:c=0:=by omega
   rw [hc0,Nat.mul_zero] at e1;omega
  ·rw [if_neg hs] at h;omega
theorem pM {X Y k1 k2:Nat} {p:Int} (hY:0<Y) (hk:k1≤k2) (hb:54≤(aR X Y k1).log2):nearR (aR X Y k1) (p - k1)=nearR (aR X Y k2) (p - k2):=by
 obtain⟨t,rfl⟩:∃ t,k2=k1+t:=⟨k2 - k1,by omega⟩
 have hs:=Em (X:=X) k1 t hY
 obtain⟨M,hM⟩:∃ M,aR X Y (k1+t)=M:=⟨_,rfl⟩
 rw [hM] at hs ⊢
 have hq0:aR X Y k1≠0:=by intro h;rw [h] at hb;exact absurd hb (by decide)
 have h1:=Nat.log2_self_le hq0
 have h2:(2:Nat)^54≤2^(aR X Y k1).log2:=Nat.pow_le_pow_right (by decide) hb
 have h3:ct M t false≤M / 2^t+1:=by unfold ct;split;omega;split<;>omega
 have h4:1≤M / 2^t:=by rw [hs] at h3;omega
 have h5:2^t≤M:=(Nat.one_le_div_iff (Nat.two_pow_pos _)).1 h4
 have hM0:M≠0:=by have:=Nat.two_pow_pos t;omega
 have h6:t≤M.log2:=(Nat.le_log2 hM0).2 h5
 have h7:=(dA false h6 hM0).1
 rw [hs] at h7
 have:=lh (M:=M) (s:=t) (p:=p - ((k1+t:Nat):Int)) hM0 (by omega)
 rw [hs,show (t:Int)+(p - ((k1+t:Nat):Int))=p - k1 by omega] at this
 exact this
theorem pN {X Y k:Nat} (hX:X≠0) (hY:Y≠0) (hk:54+Y.log2≤X.log2+k):9007199254740992≤X*2^k / Y∧54≤(aR X Y k).log2:=by
 have h1:=Nat.log2_self_le hX
 have h2:Y<2^(Y.log2+1):=Nat.lt_log2_self
 have h3:9007199254740992≤X*2^k / Y:=by
  rw [Nat.le_div_iff_mul_le (by omega)]
  refine Nat.le_trans (Nat.mul_le_mul_left _ (Nat.le_of_lt h2)) ?_
  refine Nat.le_trans ?_ (Nat.mul_le_mul_right _ h1)
  rw [show (9007199254740992:Nat)=2^53 from rfl,← Nat.pow_add,← Nat.pow_add]
  exact Nat.pow_le_pow_right (by decide) (by omega)
 refine⟨h3,?_⟩
 have h4:2^54≤aR X Y k:=by unfold aR;omega
 exact (Nat.le_log2 (by have:=Nat.two_pow_pos 54;omega)).2 h4
theorem AF {N d:Nat} (hd:1≤d):nv N d true=rne (2*N+1) (d+1):=by
 unfold nv rne
 have hp:=Nat.two_pow_pos d
 have e1:(2*N+1) / 2^(d+1)=N / 2^d:=by
  rw [Nat.pow_succ,Nat.mul_comm (2^d) 2,← Nat.div_div_eq_div_mul];congr 1;omega
 have e2:(2*N+1) % 2^(d+1)=2*(N % 2^d)+1:=by
  have a:=Nat.div_add_mod (2*N+1) (2^(d+1))
  have b:=Nat.div_add_mod N (2^d)
  rw [e1,Nat.pow_succ] at a
  have c:2^d*2*(N / 2^d)=2*(2^d*(N / 2^d)):=by rw [Nat.mul_comm (2^d) 2,Nat.mul_assoc]
  rw [Nat.pow_succ]
  omega
 rw [e1,e2]
 congr 1
 obtain⟨k,rfl⟩:∃ k,d=k+1:=⟨d - 1,by omega⟩
 rw [Nat.add_sub_cancel]
 have e:N % 2^(k+1)=N % 2^k+2^k*(N / 2^k % 2):=by rw [Nat.pow_succ,Nat.mod_mul]
 have hk:=Nat.two_pow_pos k
 have hlt:N % 2^k<2^k:=Nat.mod_lt _ hk
 rw [e,Nat.pow_succ,Nat.pow_succ]
 rcases (show N / 2^k % 2=0∨N / 2^k % 2=1 by omega) with hb | hb
 ·rw [hb,if_neg (by omega),if_neg (by omega)]
 ·rw [hb,Nat.mul_one,if_pos ⟨rfl,Or.inr (Or.inl rfl)⟩,if_pos (Or.inl (by omega))]
theorem Ie (neg:Bool) {a b:Nat} (h:min a 9218868437227405312=b):ce neg (a:Int)=ce neg (b:Int):=by
 unfold ce
 cases neg<;>simp only [Bool.false_eq_true,if_true,if_false]<;>omega
theorem Md (neg:Bool) {r:Nat} (h:r≤9218868437227405312):ce neg (r:Int)=iM neg+(r:Int):=by
 unfold ce iM
 cases neg<;>simp only [Bool.false_eq_true,if_true,if_false]<;>omega
theorem AG (neg more:Bool) {N:Nat} (e:Int) (hN:9007199254740992≤N):bZ neg N e more=iM neg+(nearR (2*N+(if more then 1 else 0)) (e - 1):Int):=by
 have h0:N≠0:=by omega
 cases more with
 | false=>
  have e0:(2*N+(if (false:Bool)=true then 1 else 0))=2*N:=rfl
  rw [gj neg e h0,e0]
  have:=aU h0 1 e
  rw [Nat.pow_one,Nat.mul_comm] at this
  rw [show e - 1=e - ((1:Nat):Int) from rfl,this];rfl
 | true=>
  rw [if_pos rfl]
  have hlog:(2*N+1).log2=N.log2+1:=by
   rw [Nat.log2_def,if_pos (by omega),show (2*N+1) / 2=N by omega]
  have hlg:53≤N.log2:=(Nat.le_log2 h0).2 (by omega)
  have hbl:=fJ h0
  have hL:ak (2*N+1) (e - 1)=ak N e:=by unfold ak;rw [hlog];congr 1;omega
  have hl:aD N e=ak N e:=by unfold aD ak;rw [hbl];omega
  have hgt:e<ak N e:=by unfold ak;omega
  have key:(if jI N e=true then if 0<e∨0<(bl N:Int)+e then ce neg 9218868437227405312 else ce neg 0 else ce neg (rnd53 N e true))=ce neg (nearR (2*N+1) (e - 1)):=by
   cases hf:jI N e
   ·simp only [Bool.false_eq_true,if_false]
    have e2:min (rnd53 N e true) 9218868437227405312=nearR (2*N+1) (e - 1):=by
     unfold rnd53 jZ nearR
     rw [hL,hl,if_neg (by omega),AF (by omega),show (e - 1 - ak N e).toNat=0 by omega,Nat.pow_zero,Nat.mul_one,show (ak N e - (e - 1)).toNat=(ak N e - e).toNat+1 by omega]
    exact Ie neg e2
   ·simp only [if_true]
    unfold jI at hf
    rw [Bool.or_eq_true,decide_eq_true_eq,decide_eq_true_eq] at hf
    rcases hf with hf | hf
    ·rw [if_pos (Or.inr (by omega)),je (by omega) (by omega)];rfl
    ·have h1:bl (2*N+1)=bl N+1:=by rw [fJ (by omega),hlog,hbl]
     rw [if_neg (by omega),pE (by omega) (by rw [h1];omega)];rfl
  unfold bZ
  rw [if_neg h0,key]
  exact Md neg (Nat.min_le_right _ _)
end Go.Proofs.YtkooknagalgfpaaGreat
namespace Go.Proofs.YtkooknagalgfpaaGreat
open Go.RowKit

def xE (X Y:Nat):Nat:=nearR (aR X Y 200) (-1 - ((200:Nat):Int))
theorem If {X Y:Nat} (hX:X≠0) (hY:Y≠0) (hY':Y≤1000000000):Cz X Y≤200∧54+Y.log2≤X.log2+Cz X Y:=by
 have h1:=fJ hX
 have h2:=fJ hY
 have h3:Y.log2<30:=(Nat.log2_lt hY).2 (by omega)
 unfold Cz
 omega
theorem te {X Y:Nat} (h:X≤1000000000):xE X Y<9218868437227405312:=by
 unfold xE
 have h1:aR X Y 200≤1*2^232:=by
  unfold aR
  have h2:X*2^200 / Y≤X*2^200:=Nat.div_le_self _ _
  have h3:X*2^200≤1073741824*2^200:=Nat.mul_le_mul_right _ (by omega)
  rw [show (1073741824:Nat)*2^200=2^230 by decide] at h3
  split<;>omega
 refine Nat.lt_of_le_of_lt (bS _ h1) ?_
 rw [show (-1:Int) - ((200:Nat):Int)=31 - ((232:Nat):Int) by decide,aU (by decide)]
 decide
end Go.Proofs.YtkooknagalgfpaaGreat
namespace Go.Proofs.YtkooknagalgfpaaGreat
open Go.RowKit

theorem xF {x y:Nat} (h:(x % 9223372036854775808=9218868437227405312∧y % 9223372036854775808=9218868437227405312)∨(x % 9223372036854775808=0∧y % 9223372036854775808=0)):floatBits .quo .f64 x y=none:=by
 show ((Ieee.double.read x).quotient 54 (Ieee.double.read y)).map Ieee.double.write=_
 rcases h with⟨hx,hy⟩| ⟨hx,hy⟩
 ·rw [aM hx,aM hy];rfl
 ·rw [ap (by omega),ap (by omega),hx,hy];rfl
theorem CB {x y:Nat} (hx:x % 9223372036854775808=9218868437227405312) (hy:ah y):floatBits .quo .f64 x y=some (wrd (sB x^^sB y) 9218868437227405312):=by
 show ((Ieee.double.read x).quotient 54 (Ieee.double.read y)).map Ieee.double.write=_
 rw [aM hx,ap hy]
 show some (Ieee.double.write (.infinity _))=_
 rw [cP];rfl
theorem nC {x y:Nat} (hx:ah x) (h0:x % 9223372036854775808≠0) (hy:y % 9223372036854775808=0):floatBits .quo .f64 x y=some (wrd (sB x^^sB y) 9218868437227405312):=by
 have hm:=eU h0
 show ((Ieee.double.read x).quotient 54 (Ieee.double.read y)).map Ieee.double.write=_
 rw [ap hx,ap (b:=y) (by omega),hy,show mg 0=0 by decide]
 show (if mg (x % 9223372036854775808)=0 then none else some (Ieee.Datum.infinity (_^^_))).map Ieee.double.write=_
 rw [if_neg hm]
 show some (Ieee.double.write (.infinity _))=_
 rw [cP];rfl
theorem AH (s:Bool) (i:Int):Ieee.double.write (.number s 0 i)=wrd s 0:=by
 show Ieee.double.nearest s 0 i=_
 rw [bR,dJ]
theorem pO {x y:Nat} (hx:ah x) (hy:y % 9223372036854775808=9218868437227405312):floatBits .quo .f64 x y=some (wrd (sB x^^sB y) 0):=by
 show ((Ieee.double.read x).quotient 54 (Ieee.double.read y)).map Ieee.double.write=_
 rw [ap hx,aM hy]
 show some (Ieee.double.write (.number _ 0 0))=_
 rw [AH];rfl
theorem tg (s t:Bool) (m n:Nat) (i j:Int) (hn:n≠0):((Ieee.Datum.number s m i).quotient 54 (.number t n j)).map Ieee.double.write=some (Ieee.double.nearest (s^^t) (2*(m*2^(54+n.log2 - m.log2) / n)+(m*2^(54+n.log2 - m.log2) % n !=0).toNat) (i - j - ((54+n.log2 - m.log2:Nat):Int) - 1)):=by
 show (if n=0 then _ else some (Ieee.Datum.number (s^^t) (2*((m <<< (54+n.log2 - m.log2)) / n)+((m <<< (54+n.log2 - m.log2)) % n !=0).toNat) (i - j - ((54+n.log2 - m.log2:Nat):Int) - 1))).map Ieee.double.write=_
 rw [if_neg hn,Nat.shiftLeft_eq]
 rfl
theorem pP {x y:Nat} (hx:x % 9223372036854775808=0) (hy:ah y) (h0:y % 9223372036854775808≠0):floatBits .quo .f64 x y=some (wrd (sB x^^sB y) 0):=by
 have hm:=eU h0
 show ((Ieee.double.read x).quotient 54 (Ieee.double.read y)).map Ieee.double.write=_
 rw [ap (b:=x) (by omega),ap hy,hx,tg _ _ _ _ _ _ hm,show mg 0=0 by decide,Nat.zero_mul,Nat.zero_div,Nat.zero_mod]
 show some (Ieee.double.nearest _ 0 _)=_
 rw [bR,dJ];rfl
theorem Me (X Y k:Nat):2*(X*2^k / Y)+(X*2^k % Y !=0).toNat=aR X Y k:=by
 unfold aR
 congr 1
 by_cases h:X*2^k % Y=0
 ·rw [if_pos h,h];rfl
 ·rw [if_neg h,show (X*2^k % Y !=0)=true by simpa using h];rfl
theorem jq {x y:Nat} (hx:ah x) (hy:ah y) (h0:x % 9223372036854775808≠0) (h1:y % 9223372036854775808≠0) {X Y:Nat} {ex ey:Int} (hX:X=mg (x % 9223372036854775808)) (hY:Y=mg (y % 9223372036854775808)) (hex:ex= -1074+(pl (x % 9223372036854775808):Int)) (hey:ey= -1074+(pl (y % 9223372036854775808):Int)) {k:Nat} (hk:54+Y.log2 - X.log2≤k) :
  floatBits .quo .f64 x y=some (wrd (sB x^^sB y) (nearR (aR X Y k) (ex - ey - 1 - k))):=by
 have hX0:X≠0:=by rw [hX];exact eU h0
 have hY0:Y≠0:=by rw [hY];exact eU h1
 show ((Ieee.double.read x).quotient 54 (Ieee.double.read y)).map Ieee.double.write=_
 rw [ap hx,ap hy,← hX,← hY,← hex,← hey,tg _ _ _ _ _ _ hY0,Me]
 have hq:=pN hX0 hY0 (k:=54+Y.log2 - X.log2) (by omega)
 have hq0:aR X Y (54+Y.log2 - X.log2)≠0:=by intro h;rw [h] at hq;exact absurd hq.2 (by decide)
 rw [bG _ hq0,dJ]
 have:=pM (X:=X) (Y:=Y) (p:=ex - ey - 1) (by omega) hk hq.2
 rw [← this,show ex - ey - ((54+Y.log2 - X.log2:Nat):Int) - 1=ex - ey - 1 - ((54+Y.log2 - X.log2:Nat):Int) by omega]
 rfl

set_option maxHeartbeats 1600000 in
theorem gV (u v:Int) (w:World) (h:U64 u) (h':U64 v) (hc:af u=true∨(af u=false∧af v=true)∨(af u=false∧af v=false∧aX u=true∧aX v=true)∨(af u=false∧af v=false∧aX u=false∧(szI u==0)=true∧(szI v==0)=true)) :
  Calls Tryz.prog 173 #[.int .u64 u,.int .u64 v] w fun e w'=>e=.returned (.int .u64 9221120237041090561)∧w'=w:=by
 have hS:=uP h h'
 rcases hc with h1 | ⟨h1,h2⟩| ⟨h1,h2,h3,h4⟩| ⟨h1,h2,h3,h4,h5⟩
 all_goals
  go_enter Tryz.func173,Tryz.ntmps173
  go_wp2_with (first | (go_at_call_of 76 (Value.int IntKind.u64 u);refine (aj u _ h).mono ?_;rintro e w' ⟨rfl,rfl⟩) | (go_at_call_of 76 (Value.int IntKind.u64 v);refine (aj v _ h').mono ?_;rintro e w' ⟨rfl,rfl⟩) | (go_at_call_of 77 (Value.int IntKind.u64 u);refine (ar u _ h).mono ?_;rintro e w' ⟨rfl,rfl⟩) | (go_at_call_of 77 (Value.int IntKind.u64 v);refine (ar v _ h').mono ?_;rintro e w' ⟨rfl,rfl⟩) | (go_at_call_of 78 (Value.int IntKind.u64 u);refine (ax u _ h).mono ?_;rintro e w' ⟨rfl,rfl⟩) | (go_at_call_of 78 (Value.int IntKind.u64 v);refine (ax v _ h').mono ?_;rintro e w' ⟨rfl,rfl⟩))
  go_ret
  exact⟨rfl,rfl⟩

set_option maxHeartbeats 1600000 in
theorem pQ (u v S:Int) (w:World) (h:U64 u) (h':U64 v) (hS:bits .and .u64 (bits .xor .u64 u v) 9223372036854775808=S) (hS0:0≤S) (hS1:S≤9223372036854775808) (hn:af u=false) (hn':af v=false) (hz:(szI u==0)=false) (hc:(aX u=true∧aX v=false)∨(aX u=false∧(szI v==0)=true)) :
  Calls Tryz.prog 173 #[.int .u64 u,.int .u64 v] w fun e w'=>e=.returned (.int .u64 (S+9218868437227405312))∧w'=w:=by
 rcases hc with⟨h1,h2⟩| ⟨h1,h2⟩
 all_goals
  go_enter Tryz.func173,Tryz.ntmps173
  go_wp2_with (first | (go_at_call_of 76 (Value.int IntKind.u64 u);refine (aj u _ h).mono ?_;rintro e w' ⟨rfl,rfl⟩) | (go_at_call_of 76 (Value.int IntKind.u64 v);refine (aj v _ h').mono ?_;rintro e w' ⟨rfl,rfl⟩) | (go_at_call_of 77 (Value.int IntKind.u64 u);refine (ar u _ h).mono ?_;rintro e w' ⟨rfl,rfl⟩) | (go_at_call_of 77 (Value.int IntKind.u64 v);refine (ar v _ h').mono ?_;rintro e w' ⟨rfl,rfl⟩) | (go_at_call_of 78 (Value.int IntKind.u64 u);refine (ax u _ h).mono ?_;rintro e w' ⟨rfl,rfl⟩) | (go_at_call_of 78 (Value.int IntKind.u64 v);refine (ax v _ h').mono ?_;rintro e w' ⟨rfl,rfl⟩))
  go_ret
  exact⟨rfl,rfl⟩

set_option maxHeartbeats 1600000 in
theorem iO (u v S:Int) (w:World) (h:U64 u) (h':U64 v) (hS:bits .and .u64 (bits .xor .u64 u v) 9223372036854775808=S) (hn:af u=false) (hn':af v=false) (hi:aX u=false) (hz:(szI v==0)=false) (hc:(aX v=true∧(szI u==0)=true)∨(aX v=true∧(szI u==0)=false)∨(aX v=false∧(szI u==0)=true)) :
  Calls Tryz.prog 173 #[.int .u64 u,.int .u64 v] w fun e w'=>e=.returned (.int .u64 S)∧w'=w:=by
 rcases hc with⟨h1,h2⟩| ⟨h1,h2⟩| ⟨h1,h2⟩
 all_goals
  go_enter Tryz.func173,Tryz.ntmps173
  go_wp2_with (first | (go_at_call_of 76 (Value.int IntKind.u64 u);refine (aj u _ h).mono ?_;rintro e w' ⟨rfl,rfl⟩) | (go_at_call_of 76 (Value.int IntKind.u64 v);refine (aj v _ h').mono ?_;rintro e w' ⟨rfl,rfl⟩) | (go_at_call_of 77 (Value.int IntKind.u64 u);refine (ar u _ h).mono ?_;rintro e w' ⟨rfl,rfl⟩) | (go_at_call_of 77 (Value.int IntKind.u64 v);refine (ar v _ h').mono ?_;rintro e w' ⟨rfl,rfl⟩) | (go_at_call_of 78 (Value.int IntKind.u64 u);refine (ax u _ h).mono ?_;rintro e w' ⟨rfl,rfl⟩) | (go_at_call_of 78 (Value.int IntKind.u64 v);refine (ax v _ h').mono ?_;rintro e w' ⟨rfl,rfl⟩))
  go_ret
  exact⟨rfl,rfl⟩

theorem li {r:Nat} (h:V r=0):r=0:=by
 have:=fS (r:=r) (s:=0)
 rw [bC] at this
 exact this.1 h
theorem Mf (s:Bool) {r:Nat} (h:r≤9218868437227405312):U64 (iM s+(r:Int))∧szI (iM s+(r:Int))=r:=by
 unfold iM U64 szI
 cases s<;>simp only [Bool.false_eq_true,if_true,if_false]<;>omega
theorem gn (x:Nat):x % 9223372036854775808 % 9223372036854775808=x % 9223372036854775808:=Nat.mod_mod _ _
theorem Ig {x y X Y k:Nat} {nx:Bool} {ex ey:Int} (hx:OfR (x % 9223372036854775808) nx X ex) {ny:Bool} (hy:OfR (y % 9223372036854775808) ny Y ey) (hnx:ah x) (hny:ah y) (h0:x % 9223372036854775808≠0) (h1:y % 9223372036854775808≠0) (hX0:X≠0) (hY0:Y≠0) (hk:max 0 (70 - (bl X:Int)+(bl Y:Int))=(k:Int)) (more:Bool) (hmo:decide (0<nd (X*2^k % Y))=more) :
  ∃ r:Nat,r≤9218868437227405312∧floatBits .quo .f64 x y=some (wrd (sB x^^sB y) r)∧U64 (bZ nx (X*2^k / Y) (ex - k - ey) more)∧szI (bZ nx (X*2^k / Y) (ex - k - ey) more)=r:=by
 obtain⟨a1,a2⟩:=hx.mag hX0
 obtain⟨b1,b2⟩:=hy.mag hY0
 rw [gn] at a1 a2 b1 b2
 have hbx:=fJ hX0
 have hby:=fJ hY0
 have hkk:54+Y.log2 - X.log2≤k:=by omega
 have hq:=jq hnx hny h0 h1 a1 b1 a2 b2 hkk
 have hb:=pN hX0 hY0 (k:=k) (by omega)
 refine⟨nearR (aR X Y k) (ex - ey - 1 - (k:Int)),Nat.min_le_right _ _,hq,?_⟩
 rw [AG nx more _ hb.1]
 have e:2*(X*2^k / Y)+(if more=true then 1 else 0)=aR X Y k:=by
  unfold aR
  congr 1
  by_cases hr:X*2^k % Y=0
  ·rw [hr] at hmo
   rw [if_pos hr,← hmo];rfl
  ·have:=dX hr
   rw [if_neg hr,← hmo,if_pos (decide_eq_true (show 0<nd (X*2^k % Y) from this))]
 rw [e,show ex - (k:Int) - ey - 1=ex - ey - 1 - (k:Int) by omega]
 have hle:nearR (aR X Y k) (ex - ey - 1 - (k:Int))≤9218868437227405312:=Nat.min_le_right _ _
 generalize nearR (aR X Y k) (ex - ey - 1 - (k:Int))=r at hle
 exact Mf nx hle

set_option maxRecDepth 10000 in
set_option maxHeartbeats 1600000 in
theorem AI (x y r:Nat) (u v S R:Int) (w:World) (hu:Hid (u=(x:Int))) (hv:Hid (v=(y:Int))) (h:U64 u) (h':U64 v) (hx:ah x) (hy:ah y) (h0:Hid (x % 9223372036854775808≠0)) (h1:Hid (y % 9223372036854775808≠0)) (hS:bits .and .u64 (bits .xor .u64 u v) 9223372036854775808=S) (hS0:0≤S) (hS1:S≤9223372036854775808) (hr:Hid (floatBits .quo .f64 x y=some (wrd (sB x^^sB y) r))) (hr2:Hid (r≤9218868437227405312)) (hR:Hid (R=(r:Int))) (hn:af u=false) (hn':af v=false) (hi:aX u=false) (hi':aX v=false) (hz:(szI u==0)=false) (hz':(szI v==0)=false) :
  Calls Tryz.prog 173 #[.int .u64 u,.int .u64 v] w fun e w'=>e=.returned (.int .u64 (S+R))∧Below w.heap.size w w':=by
 have hR0:0≤R:=by rw [hR.out];omega
 have hR1:R≤9218868437227405312:=by have:=hr2.out;rw [hR.out];omega
 have HX:=ae hx
 have HY:=ae hy
 have cx:=bH hu.out
 have cy:=bH hv.out
 obtain⟨zu,hzu⟩:∃ zu,szI u=zu:=⟨_,rfl⟩
 obtain⟨zv,hzv⟩:∃ zv,szI v=zv:=⟨_,rfl⟩
 rw [hzu] at cx hz
 rw [hzv] at cy hz'
 have HO1:Hid (∀ w,Calls Tryz.prog 81 #[.int .u64 zu] w fun r w'=>∃ neg v N e,r=.returned (.agg #[.bool neg,v,.int .i64 e])∧DN w' v N∧OfR (x % 9223372036854775808) neg N e∧Below w.heap.size w w'):=fun w=>gL (x % 9223372036854775808) zu w cx (by rw [cx];exact an (by omega)) (by unfold ah at *;rw [gn];exact hx)
 have HO2:Hid (∀ w,Calls Tryz.prog 81 #[.int .u64 zv] w fun r w'=>∃ neg v N e,r=.returned (.agg #[.bool neg,v,.int .i64 e])∧DN w' v N∧OfR (y % 9223372036854775808) neg N e∧Below w.heap.size w w'):=fun w=>gL (y % 9223372036854775808) zv w cy (by rw [cy];exact an (by omega)) (by unfold ah at *;rw [gn];exact hy)
 have HS1:=ae fun w=>gT u zu w h hzu
 have HS2:=ae fun w=>gT v zv w h' hzv
 have HN1:=ae (aj u · h)
 have HN2:=ae (aj v · h')
 have HI1:=ae (ar u · h)
 have HI2:=ae (ar v · h')
 rw [hn] at HN1
 rw [hn'] at HN2
 rw [hi] at HI1
 rw [hi'] at HI2
 clear hx hy hn hn' hi hi' h h' hzu hzv cx cy
 go_enter Tryz.func173,Tryz.ntmps173
 go_wp2_with (first | (go_at_call_of 76 (Value.int IntKind.u64 u);refine (bL (HN1.out _)).mono ?_;rintro e w' ⟨rfl,rfl⟩) | (go_at_call_of 76 (Value.int IntKind.u64 v);refine (bL (HN2.out _)).mono ?_;rintro e w' ⟨rfl,rfl⟩) | (go_at_call_of 77 (Value.int IntKind.u64 u);refine (bL (HI1.out _)).mono ?_;rintro e w' ⟨rfl,rfl⟩) | (go_at_call_of 77 (Value.int IntKind.u64 v);refine (bL (HI2.out _)).mono ?_;rintro e w' ⟨rfl,rfl⟩) | (go_at_call_of 78 (Value.int IntKind.u64 u);refine (HS1.out _).mono ?_;rintro e w' ⟨rfl,rfl⟩) | (go_at_call_of 78 (Value.int IntKind.u64 v);refine (HS2.out _).mono ?_;rintro e w' ⟨rfl,rfl⟩))
 refine (HO1.out _).mono ?_
 rintro r1 w1 ⟨nx,vx,X,ex,rfl,hdx,hX,hb1⟩
 have HB1:=ae hb1
 have HDx:=ae hdx
 have HOX:=ae hX
 clear hb1 hdx hX
 go_wp2_with fail
 refine (HS2.out _).mono ?_
 rintro e w' ⟨rfl,rfl⟩
 go_wp2_with fail
 refine (HO2.out _).mono ?_
 rintro r1 w2 ⟨ny,vy,Y,ey,rfl,hdy,hY,hb2⟩
 have HB2:=ae (HB1.out.trans (hb2.mono HB1.out.size))
 have HDx2:=ae (HDx.out.below hb2)
 have HDy:=ae hdy
 have HOY:=ae hY
 clear hb2 hdy hY HB1 HDx
 have HX0:Hid (X≠0):=fun e=>h0.out (by have:=HOX.out.val;rw [e,Nat.zero_mul] at this;unfold aV at this;rw [gn] at this;exact li this.symm)
 have HY0:Hid (Y≠0):=fun e=>h1.out (by have:=HOY.out.val;rw [e,Nat.zero_mul] at this;unfold aV at this;rw [gn] at this;exact li this.symm)
 obtain⟨k,hk⟩:∃ k:Nat,max 0 (70 - (bl X:Int)+(bl Y:Int))=(k:Int):=⟨(max 0 (70 - (bl X:Int)+(bl Y:Int))).toNat,by omega⟩
 obtain⟨mo,hmo⟩:∃ mo,decide (0<nd (X*2^k % Y))=mo:=⟨_,rfl⟩
 obtain⟨r',p1,p2,p3,p4⟩:=Ig HOX.out HOY.out HX.out HY.out h0.out h1.out HX0.out HY0.out hk mo hmo
 have hrr:r'=r:=by
  have e:=hr.out
  rw [p2] at e
  have e2:wrd (sB x^^sB y) r'=wrd (sB x^^sB y) r:=Option.some.inj e
  unfold wrd at e2
  split at e2<;>omega
 obtain⟨res,hres⟩:∃ res,bZ nx (X*2^k / Y) (ex - k - ey) mo=res:=⟨_,rfl⟩
 rw [hres] at p3 p4
 rw [hrr,← hR.out] at p4
 have HOv:=ae (xB nx ny mo vx vy ex ey res X Y k _ w2 HDx2.out HDy.out HX0.out HY0.out (by have:=fK HOX.out.lt;omega) (by have:=fK HOY.out.lt;omega) (by have:=HOX.out.lo;omega) (by have:=HOX.out.hi;omega) (by have:=HOY.out.lo;omega) (by have:=HOY.out.hi;omega) hk rfl hmo hres)
 have HSz:=ae fun w=>gT res R w p3 p4
 clear hk hmo hres p1 p2 p3 p4 hrr HX0 HY0 HOX HOY HDx2 HDy hr hr2
 go_wp2_with fail
 refine HOv.out.mono ?_
 rintro r1 w3 ⟨rfl,hb3⟩
 have HB3:=ae (HB2.out.trans (hb3.mono HB2.out.size))
 clear hb3 HOv HB2
 go_wp2_with fail
 refine (HSz.out _).mono ?_
 rintro r1 w' ⟨rfl,rfl⟩
 go_wp2_with fail
 go_ret
 exact⟨rfl,HB3.out⟩

theorem kg (x y:Nat) (u v:Int) (w:World) (hu:Hid (u=(x:Int))) (hv:Hid (v=(y:Int))) (h:U64 u) (h':U64 v) :
  Calls Tryz.prog 173 #[.int .u64 u,.int .u64 v] w fun e w'=>e=.returned (.int .u64 (cn (floatBits .quo .f64 x y):Int))∧Below w.heap.size w w':=by
 have hS:=uP h h'
 obtain⟨s0,s1⟩:=CA (sgB u^^sgB v)
 have hx64:x<18446744073709551616:=by have:=h.2;rw [hu.out] at this;omega
 have hy64:y<18446744073709551616:=by have:=h'.2;rw [hv.out] at this;omega
 have hsx:sgB u=sB x:=by rw [hu.out];exact gK hx64
 have hsy:sgB v=sB y:=by rw [hv.out];exact gK hy64
 have cx:=bH hu.out
 have cy:=bH hv.out
 have zx:∀ b,decide (x % 9223372036854775808=0)=b→(szI u==0)=b:=fun b e=>by
  rw [← e,cx];by_cases c:x % 9223372036854775808=0
  ·rw [c];rfl
  ·rw [decide_eq_false c];simp;omega
 have zy:∀ b,decide (y % 9223372036854775808=0)=b→(szI v==0)=b:=fun b e=>by
  rw [← e,cy];by_cases c:y % 9223372036854775808=0
  ·rw [c];rfl
  ·rw [decide_eq_false c];simp;omega
 have same:∀ {r:Int},(Calls Tryz.prog 173 #[.int .u64 u,.int .u64 v] w fun e w'=>e=.returned (.int .u64 r)∧w'=w)→(cn (floatBits .quo .f64 x y):Int)=r→Calls Tryz.prog 173 #[.int .u64 u,.int .u64 v] w fun e w'=>e=.returned (.int .u64 (cn (floatBits .quo .f64 x y):Int))∧Below w.heap.size w w':=fun hc e=>by
  rw [e]
  exact hc.mono fun _ _ ⟨a,b⟩=>⟨a,by rw [b];exact Below.refl _ _⟩
 cases hn:af u with
 | true=>
  refine same (gV u v w h h' (Or.inl hn)) ?_
  rw [dQ (by rw [← hu.out];exact hn)];rfl
 | false=>
  cases hn':af v with
  | true=>
   refine same (gV u v w h h' (Or.inr (Or.inl ⟨hn,hn'⟩))) ?_
   rw [eG (by rw [← hv.out];exact hn')];rfl
  | false=>
   cases hi:aX u with
   | true=>
    have ix:=gR hu.out hi
    cases hi':aX v with
    | true=>
     have iy:=gR hv.out hi'
     refine same (gV u v w h h' (Or.inr (Or.inr (Or.inl ⟨hn,hn',hi,hi'⟩)))) ?_
     rw [xF (Or.inl ⟨ix,iy⟩)];rfl
    | false=>
     have ny:=gQ hv.out hn' hi'
     refine same (pQ u v _ w h h' hS s0 s1 hn hn' (zx _ (by rw [ix];rfl)) (Or.inl ⟨hi,hi'⟩)) ?_
     rw [CB ix ny,ao,dR,hsx,hsy];rfl
   | false=>
    have nx:=gQ hu.out hn hi
    by_cases hyz:y % 9223372036854775808=0
    ·by_cases hxz:x % 9223372036854775808=0
     ·refine same (gV u v w h h' (Or.inr (Or.inr (Or.inr ⟨hn,hn',hi,zx _ (decide_eq_true hxz),zy _ (decide_eq_true hyz)⟩)))) ?_
      rw [xF (Or.inr ⟨hxz,hyz⟩)];rfl
     ·refine same (pQ u v _ w h h' hS s0 s1 hn hn' (zx _ (decide_eq_false hxz)) (Or.inr ⟨hi,zy _ (decide_eq_true hyz)⟩)) ?_
      rw [nC nx hxz hyz,ao,dR,hsx,hsy];rfl
    ·cases hi':aX v with
     | true=>
      have iy:=gR hv.out hi'
      have e:(cn (floatBits .quo .f64 x y):Int)=iM (sgB u^^sgB v):=by rw [pO nx iy,ao,dR,hsx,hsy];simp
      by_cases hxz:x % 9223372036854775808=0
      ·exact same (iO u v _ w h h' hS hn hn' hi (zy _ (decide_eq_false hyz)) (Or.inl ⟨hi',zx _ (decide_eq_true hxz)⟩)) e
      ·exact same (iO u v _ w h h' hS hn hn' hi (zy _ (decide_eq_false hyz)) (Or.inr (Or.inl ⟨hi',zx _ (decide_eq_false hxz)⟩))) e
     | false=>
      have ny:=gQ hv.out hn' hi'
      by_cases hxz:x % 9223372036854775808=0
      ·refine same (iO u v _ w h h' hS hn hn' hi (zy _ (decide_eq_false hyz)) (Or.inr (Or.inr ⟨hi',zx _ (decide_eq_true hxz)⟩))) ?_
       rw [pP hxz ny hyz,ao,dR,hsx,hsy];simp
      ·obtain⟨r,hr,hle⟩:∃ r,floatBits .quo .f64 x y=some (wrd (sB x^^sB y) r)∧r≤9218868437227405312:=⟨_,jq nx ny hxz hyz rfl rfl rfl rfl (Nat.le_refl _),Nat.min_le_right _ _⟩
       have e:(cn (floatBits .quo .f64 x y):Int)=iM (sgB u^^sgB v)+(r:Int):=by rw [hr,ao,dR,hsx,hsy]
       rw [e]
       exact AI x y r u v _ _ w hu hv h h' nx ny hxz hyz hS s0 s1 hr hle rfl hn hn' hi hi' (zx _ (decide_eq_false hxz)) (zy _ (decide_eq_false hyz))
end Go.Proofs.YtkooknagalgfpaaGreat
namespace Go.Proofs.YtkooknagalgfpaaGreat
open Go.RowKit

theorem xG (X Y a k:Nat):aR (X*2^a) Y k=aR X Y (a+k):=by
 unfold aR
 rw [Nat.mul_assoc,← Nat.pow_add]
theorem nD (X Y k c:Nat) (hc:0<c):aR (X*c) (Y*c) k=aR X Y k:=by
 unfold aR
 rw [show X*c*2^k=X*2^k*c by rw [Nat.mul_assoc,Nat.mul_comm c,← Nat.mul_assoc],Nat.mul_div_mul_right _ _ hc,Nat.mul_mod_mul_right]
 have:(X*2^k % Y*c=0)↔(X*2^k % Y=0):=by
  rw [Nat.mul_eq_zero];omega
 simp only [this]
theorem En {A B X Y p q m t:Nat} (hA:A*2^p=X*2^t) (hB:B*2^q=Y*2^t):aR A B (p+m)=aR X Y (q+m):=by
 rw [← xG A B p m,hA,← nD _ B m (2^q) (Nat.two_pow_pos _),hB,show X*2^t*2^q=X*2^q*2^t by rw [Nat.mul_assoc,Nat.mul_comm (2^t),← Nat.mul_assoc],nD _ _ _ _ (Nat.two_pow_pos _),xG]
theorem Eo {x y X Y:Nat} (hx:ah x) (hy:ah y) (hX:aV x=X*2^1074) (hY:aV y=Y*2^1074) (hX0:X≠0) (hY0:Y≠0) (hY':Y≤1000000000) :
  floatBits .quo .f64 x y=some (wrd (sB x^^sB y) (xE X Y)):=by
 have px:=Nat.two_pow_pos 1074
 have h0:x % 9223372036854775808≠0:=by
  intro h
  unfold aV at hX
  rw [h,bC] at hX
  have:=Nat.mul_pos (show 0<X by omega) px
  omega
 have h1:y % 9223372036854775808≠0:=by
  intro h
  unfold aV at hY
  rw [h,bC] at hY
  have:=Nat.mul_pos (show 0<Y by omega) px
  omega
 unfold aV V at hX hY
 have mx:=eU h0
 have my:=eU h1
 have lx:=nf (x % 9223372036854775808)
 have ly:=nf (y % 9223372036854775808)
 have hl:(mg (y % 9223372036854775808)).log2<53:=(Nat.log2_lt my).2 (by omega)
 rw [jq hx hy h0 h1 rfl rfl rfl rfl (k:=pl (x % 9223372036854775808)+300) (by omega),En hX hY]
 obtain⟨k1,k2⟩:=If hX0 hY0 hY'
 have hb:=pN hX0 hY0 k2
 have e1:=pM (X:=X) (Y:=Y) (p:=-1) (by omega) (show Cz X Y≤pl (y % 9223372036854775808)+300 by omega) hb.2
 have e2:=pM (X:=X) (Y:=Y) (p:=-1) (by omega) k1 hb.2
 unfold xE
 rw [← e2,e1]
 congr 3
 omega
end Go.Proofs.YtkooknagalgfpaaGreat
namespace Go.Proofs.YtkooknagalgfpaaGreat
open Go.RowKit

theorem nH (m:Int):floatOfInt .f64 m=fi m:=by
 show Ieee.double.nearest (decide (m<0)) m.natAbs 0=_
 unfold fi aF
 by_cases h0:m=0
 ·subst h0;rfl
 ·rw [if_neg h0,bG _ (by omega)]
  by_cases hn:m<0
  ·simp only [hn,decide_true,if_true];rw [fX]
  ·simp only [hn,decide_false,if_false];rw [gE]
theorem IA {m:Int} {K:Nat} (hK:K=1074) (h1: -1000000000≤m) (h2:m≤1000000000):ah (fi m)∧aV (fi m)=m.natAbs*2^K∧sB (fi m)=decide (m<0)∧fi m<18446744073709551616:=by
 obtain⟨a,b,c,d⟩:=ni (m:=m) hK (by omega) (by omega)
 refine⟨b,?_,c,d⟩
 unfold aV
 have hn:(vI (fi m)).natAbs=V (fi m % 9223372036854775808):=by
  unfold vI
  split<;>simp
 rw [← hn,a,Int.natAbs_mul,Int.natAbs_natCast]
def yW (P Q:Int):Nat:=if P=0 then 0 else wrd (decide (P<0)) (xE P.natAbs Q.natAbs)
theorem IB {P Q:Int} (h1: -1000000000≤P) (h2:P≤1000000000) (h3:0<Q) (h4:Q≤1000000000):floatBits .quo .f64 (fi P) (fi Q)=some (yW P Q):=by
 obtain⟨K,hK⟩:∃ K:Nat,K=1074:=⟨_,rfl⟩
 obtain⟨a1,a2,a3,_⟩:=IA (m:=P) hK h1 h2
 obtain⟨b1,b2,b3,_⟩:=IA (m:=Q) hK (by omega) h4
 have hs:decide (Q<0)=false:=decide_eq_false (by omega)
 have hp:=Nat.two_pow_pos K
 unfold yW
 by_cases h0:P=0
 ·rw [if_pos h0]
  subst h0
  have hq:fi Q % 9223372036854775808≠0:=fun e=>by
   unfold aV at b2
   rw [e,bC] at b2
   have:=Nat.mul_pos (show 0<Q.natAbs by omega) hp
   omega
  rw [show fi 0=0 from Ln,pP (by rfl) b1 hq,b3,hs]
  rfl
 ·rw [if_neg h0]
  subst hK
  rw [Eo a1 b1 a2 b2 (by omega) (by omega) (by omega),a3,b3,hs]
  simp
theorem Qm {P Q:Int} (h1: -1000000000≤P) (h2:P≤1000000000):yW P Q<18446744073709551616:=by
 unfold yW
 have:=te (X:=P.natAbs) (Y:=Q.natAbs) (by omega)
 split
 ·decide
 ·unfold wrd;split<;>omega

set_option maxHeartbeats 800000 in
theorem IC (kind W a b P Q:Int) (v:Value) (w:World) (h1: -1000000000≤P) (h2:P≤1000000000) (h3:0<Q) (h4:Q≤1000000000) (H:Hid (FracH w kind W a b P Q 0 v)) :
  Calls Tryz.prog 60 #[.int .i64 kind,.agg #[.int .i64 W,v],.int .i64 a,.int .i64 b] w fun e w'=>e=.returned (.tuple #[.float .f64 (yW P Q),.int .i64 0])∧Below w.heap.size w w':=by
 have HB:=hideS (bT w W v)
 have f1:=nH P
 have f2:=nH Q
 have hq:=IB h1 h2 h3 h4
 unfold FracH at H
 clear h1 h2 h3 h4
 generalize yW P Q=R at *
 generalize fi P=X at *
 generalize fi Q=Y at *
 have hr:=fun wx=>run_float_arith (P:=Tryz.prog) wx .quo 46 .f64 X Y R hq
 clear hq
 go_enter Tryz.func60,Tryz.ntmps60
 go_wp2_with (go_at_call 100;refine (H.out _ HB.out).mono ?_;rintro e w1 ⟨rfl,hb⟩)
 go_ret2
 exact⟨rfl,HB.out.trans (hb.mono HB.out.size)⟩
set_option maxHeartbeats 800000 in
theorem Ew (kind W a b E:Int) (v:Value) (w:World) (hE:E≠0) (H:Hid (FracH w kind W a b 0 0 E v)) :
  Calls Tryz.prog 60 #[.int .i64 kind,.agg #[.int .i64 W,v],.int .i64 a,.int .i64 b] w fun e w'=>e=.returned (.tuple #[.float .f64 0,.int .i64 E])∧Below w.heap.size w w':=by
 have HB:=hideS (bT w W v)
 have hE':(E !=0)=true:=bne_iff_ne.2 hE
 unfold FracH at H
 clear hE
 go_enter Tryz.func60,Tryz.ntmps60
 go_wp2_with (go_at_call 100;refine (H.out _ HB.out).mono ?_;rintro e w1 ⟨rfl,hb⟩)
 go_ret2
 exact⟨rfl,HB.out.trans (hb.mono HB.out.size)⟩
def Qn (w:World) (kind W a b:Int) (R:Nat) (E:Int) (v:Value):Prop:=∀ wx,Below w.heap.size w wx→Calls Tryz.prog 60 #[.int .i64 kind,.agg #[.int .i64 W,v],.int .i64 a,.int .i64 b] wx fun e w'=>e=.returned (.tuple #[.float .f64 R,.int .i64 E])∧Below wx.heap.size wx w'
theorem FracH.later {w wx:World} {kind W a b P Q E:Int} {v:Value} (h:FracH w kind W a b P Q E v) (hb:Below w.heap.size w wx):FracH wx kind W a b P Q E v:=fun wy hy=>h wy (hb.trans (hy.mono hb.size))
theorem ID {kind:Int}:0<cZ kind∧cZ kind≤1000000000:=by
 unfold cZ
 split
 ·decide
 ·split
  ·decide
  ·split<;>decide
theorem FracR.bd {kind W a b P Q E:Int} {rs:List Rul} (h:FracR kind W a b rs P Q E): -1000000000≤P∧P≤1000000000∧(E=0→0<Q∧Q≤1000000000)∧(E≠0→P=0∧Q=0):=by
 cases h with
 | fine hk hk' ha hb h6=>
  have:=xj (opB W rs) (kind:=kind) ha hb
  exact⟨this.1,this.2,fun _=>ID,fun c=>absurd rfl c⟩
 | kind h=>exact⟨by decide,by decide,fun c=>absurd c (by decide),fun _=>⟨rfl,rfl⟩⟩
 | cal A B h6 h hA=>exact⟨by decide,by decide,fun c=>absurd c hA,fun _=>⟨rfl,rfl⟩⟩
 | day hk hk' h h6=>exact⟨by decide,by decide,fun c=>absurd c (by decide),fun _=>⟨rfl,rfl⟩⟩
theorem FracR.year {kind W a b P Q E:Int} {rs:List Rul} (h:FracR kind W a b rs P Q E) (p:Option Addr) (bb off c:Nat) (w:World) (hs:RSrc w p bb off rs) (hl:rs.length≤9223372036854775807):Qn w kind W a b (yW P Q) E (.slice p rs.length c):=fun wx hbx=>by
 have hp:=(h.prog p bb off c w hs hl).later hbx
 obtain⟨b1,b2,b3,b4⟩:=h.bd
 by_cases hE:E=0
 ·subst hE
  exact IC kind W a b P Q _ wx b1 b2 (b3 rfl).1 (b3 rfl).2 hp
 ·obtain⟨rfl,rfl⟩:=b4 hE
  exact Ew kind W a b E _ wx hE hp
end Go.Proofs.YtkooknagalgfpaaGreat
namespace Go.Proofs.YtkooknagalgfpaaGreat
open Go.RowKit

theorem xR (x:Nat):vI x=sg (sB x) (aV x):=rfl
theorem qd (neg:Bool) (N k:Nat):sg neg (N*k)=sg neg N*(k:Int):=by
 unfold sg;cases neg<;>simp [Int.neg_mul]
theorem cg (neg:Bool):sg neg 0=0:=by cases neg<;>rfl
theorem xS {x X n k:Nat} {nx:Bool} {ex:Int} (h:OfR x nx X ex) (hk:X≠0→n+k=(ex+1074).toNat):sg nx (X*2^n)*((2^k:Nat):Int)=vI x:=by
 rw [← qd,Nat.mul_assoc,← Nat.pow_add,xR,← h.val]
 by_cases h0:X=0
 ·rw [h0,Nat.zero_mul,Nat.zero_mul,cg,cg]
 ·rw [hk h0,h.sgn h0]
structure AddR (x y X Y:Nat) (nx ny:Bool) (ex ey E:Int) (n m k:Nat):Prop where
 hn:X≠0→ex - E=(n:Int)
 hm:Y≠0→ey - E=(m:Int)
 hn1:n≤3000
 hm1:m≤3000
 lo: -1074≤E
 hi:E≤971
 hk:E+1074=(k:Int)
 had:nd (X*2^n)≤10000000
 hbd:nd (Y*2^m)≤10000000
 val:(sg nx (X*2^n)+sg ny (Y*2^m))*((2^k:Nat):Int)=vI x+vI y
 small:∃ K,K≤3100∧(sg nx (X*2^n)+sg ny (Y*2^m)).natAbs<2^K
theorem tk {X n K:Nat} (hK:K=3060) (h:X<9007199254740992) (hn:n≤3000):X*2^n<2^K:=by
 have h1:(2:Nat)^n≤2^(K - 60):=Nat.pow_le_pow_right (by decide) (by omega)
 have h2:X*2^n<2^53*2^(K - 60):=Nat.mul_lt_mul_of_lt_of_le h h1 (Nat.two_pow_pos _)
 rw [← Nat.pow_add] at h2
 exact Nat.lt_of_lt_of_le h2 (Nat.pow_le_pow_right (by decide) (by omega))
theorem mz {X K:Nat} (hK:K≤3100) (h:X<2^K):nd X≤1000:=by
 obtain⟨k,hk⟩:∃ k:Nat,k=97:=⟨_,rfl⟩
 have:=dL (N:=X) (k:=k) (Nat.lt_of_lt_of_le h (Nat.pow_le_pow_right (by decide) (by omega)))
 omega
theorem Ey {a b P Q:Nat} {s t:Bool} (h1:a<P) (h2:b<P) (hPQ:P+P≤Q):(sg s a+sg t b).natAbs<Q:=by
 unfold sg;cases s<;>cases t<;>simp only [Bool.false_eq_true,if_true,if_false]<;>omega
theorem MG {x y X Y:Nat} {nx ny:Bool} {ex ey E:Int} (hX:OfR x nx X ex) (hY:OfR y ny Y ey) (hE:nB X ex Y ey=E):∃ n m k,AddR x y X Y nx ny ex ey E n m k:=by
 have l1:=hX.lo
 have l2:=hX.hi
 have l3:=hY.lo
 have l4:=hY.hi
 have hEr: -1074≤E∧E≤971∧(X≠0→E≤ex)∧(Y≠0→E≤ey):=by
  rw [← hE];unfold nB
  by_cases a:X=0
  ·rw [if_pos a];refine⟨l3,l4,fun h=>absurd a h,fun _=>Int.le_refl _⟩
  ·rw [if_neg a]
   by_cases b:Y=0
   ·rw [if_pos b];exact⟨l1,l2,fun _=>Int.le_refl _,fun h=>absurd b h⟩
   ·rw [if_neg b];refine⟨by omega,by omega,fun _=>by omega,fun _=>by omega⟩
 obtain⟨e1,e2,e3,e4⟩:=hEr
 obtain⟨K,hK⟩:∃ K:Nat,K=3060:=⟨_,rfl⟩
 have s1:=tk (n:=(ex - E).toNat) hK hX.lt (by omega)
 have s2:=tk (n:=(ey - E).toNat) hK hY.lt (by omega)
 refine⟨(ex - E).toNat,(ey - E).toNat,(E+1074).toNat,⟨fun h=>by have:=e3 h;omega,fun h=>by have:=e4 h;omega,by omega,by omega,e1,e2,by omega,?_,?_,?_,?_⟩⟩
 ·exact Nat.le_trans (mz (by omega) s1) (by decide)
 ·exact Nat.le_trans (mz (by omega) s2) (by decide)
 ·rw [Int.add_mul,xS hX (fun h=>by have:=e3 h;omega),xS hY (fun h=>by have:=e4 h;omega)]
 ·refine⟨K+1,by omega,Ey s1 s2 ?_⟩
  rw [Nat.pow_succ];omega
theorem AQ {neg:Bool} {N:Nat} (h:N≠0):decide (sg neg N<0)=neg:=by
 unfold sg
 cases neg
 ·simp
 ·simp;omega
theorem xT {S:Int} (k:Nat):(S*((2^k:Nat):Int)<0↔S<0)∧(S*((2^k:Nat):Int)=0↔S=0):=by
 have hp:(0:Int)<((2^k:Nat):Int):=by have:=Nat.two_pow_pos k;omega
 refine⟨⟨fun h=>?_,fun h=>Int.mul_neg_of_neg_of_pos h hp⟩,⟨fun h=>?_,fun h=>by rw [h,Int.zero_mul]⟩⟩
 ·by_cases h6:S<0
  ·exact h6
  ·have:=Int.mul_nonneg (by omega:0≤S) (by omega:(0:Int)≤((2^k:Nat):Int));omega
 ·rcases Int.mul_eq_zero.1 h with h | h
  ·exact h
  ·omega
theorem MH {x y X Y n m k N:Nat} {nx ny neg:Bool} {ex ey E E':Int} (h:AddR x y X Y nx ny ex ey E n m k) (hs:sg neg N=sg nx (X*2^n)+sg ny (Y*2^m)) (hE:E'=E∨(E'=0∧N=0)) (h0:N≠0) :
  bZ neg N E' false=(iC (sB x) (sB y) (vI x+vI y):Int):=by
 obtain⟨S,hS⟩:∃ S,sg neg N=S:=⟨_,rfl⟩
 have hv:=h.val
 rw [← hs,hS] at hv
 have hS0:S≠0:=by
  intro e;rw [e] at hS
  have:=fE neg N
  rw [hS] at this;exact h0 this.symm
 have hab:S.natAbs=N:=by rw [← hS];exact fE neg N
 have hEE:E'=E:=by
  rcases hE with h | ⟨_,h⟩
  ·exact h
  ·exact absurd h h0
 rw [gj neg E' h0,hEE]
 unfold iC
 rw [← hv]
 obtain⟨m1,m2⟩:=xT (S:=S) k
 rw [if_neg (fun e=>hS0 (m2.1 e))]
 unfold aF
 rw [if_neg (fun e=>hS0 (m2.1 e)),bM,hab]
 have h7:=aU h0 k E
 rw [show E - (k:Int)= -1074 by have:=h.hk;omega] at h7
 rw [h7]
 have hd:=AQ (neg:=neg) h0
 rw [hS] at hd
 cases neg
 ·rw [if_neg (by decide),if_neg (fun e=>by have:=m1.1 e;simp at hd;omega)];omega
 ·rw [if_pos rfl,if_pos (m1.2 (by simpa using hd))];omega
theorem IH {r:Nat} (h:V r=0):r=0:=by
 have:=fS (r:=r) (s:=0)
 rw [bC] at this
 exact this.1 h
theorem II {x y:Nat} {u v:Int} (hu:u=(x:Int)) (hv:v=(y:Int)) (h:U64 u) (h':U64 v) (hT:vI x+vI y=0) :
  (((szI u==0)=true∧(u==v)=true)∧u=(iC (sB x) (sB y) (vI x+vI y):Int))∨(((szI u==0)=false∨((szI u==0)=true∧(u==v)=false))∧(0:Int)=(iC (sB x) (sB y) (vI x+vI y):Int)):=by
 have e1:=bH hu
 have hx64:x<18446744073709551616:=by have:=h.2;omega
 have hy64:y<18446744073709551616:=by have:=h'.2;omega
 unfold iC
 rw [if_pos hT]
 rw [xR,xR] at hT
 by_cases hz:szI u=0
 ·have hx0:x % 9223372036854775808=0:=by omega
  have hax:aV x=0:=by unfold aV;rw [hx0];exact bC
  have hay:aV y=0:=by
   rw [hax,cg,Int.zero_add] at hT
   have:=fE (sB y) (aV y);rw [hT] at this;exact this.symm
  have hy0:y % 9223372036854775808=0:=IH hay
  by_cases hq:u=v
  ·left
   refine⟨⟨by rw [hz];rfl,by rw [hq];exact beq_self_eq_true v⟩,?_⟩
   have hxy:x=y:=by omega
   subst hxy
   unfold sB
   rcases (show x=0∨x=9223372036854775808 by omega) with e | e
   ·subst e;rw [hu];rfl
   ·subst e;rw [hu];rfl
  ·right
   refine⟨Or.inr ⟨by rw [hz];rfl,by simpa using hq⟩,?_⟩
   unfold sB
   rcases (show x=0∨x=9223372036854775808 by omega) with e | e
   ·subst e;rfl
   ·subst e
    rcases (show y=0∨y=9223372036854775808 by omega) with e | e
    ·subst e;rfl
    ·exact absurd (by rw [hu,hv,e]) hq
 ·right
  refine⟨Or.inl (by simpa using hz),?_⟩
  have hax:aV x≠0:=fun e=>hz (by have:=IH e;omega)
  cases hsx:sB x
  ·rfl
  ·cases hsy:sB y
   ·rfl
   ·rw [hsx,hsy] at hT;unfold sg at hT;simp at hT;omega

theorem lw {x y:Nat} (hx:x % 9223372036854775808=9218868437227405312) (hy:ah y) (hx64:x<18446744073709551616):floatBits .add .f64 x y=some x∧floatBits .add .f64 y x=some x:=by
 have hw:wrd (sB x) 9218868437227405312=x:=by
  unfold wrd sB
  rcases (show x / 9223372036854775808=0∨x / 9223372036854775808=1 by omega) with e | e
  ·rw [e];simp;omega
  ·rw [e];simp;omega
 constructor
 ·show ((Ieee.double.read x).sum (Ieee.double.read y)).map Ieee.double.write=_
  rw [aM hx,ap hy]
  show some (Ieee.double.write (.infinity _))=_
  rw [cP];exact congrArg some hw
 ·show ((Ieee.double.read y).sum (Ieee.double.read x)).map Ieee.double.write=_
  rw [aM hx,ap hy]
  show some (Ieee.double.write (.infinity _))=_
  rw [cP];exact congrArg some hw
theorem qe {x y:Nat} (hx:x % 9223372036854775808=9218868437227405312) (hy:y % 9223372036854775808=9218868437227405312) (hx64:x<18446744073709551616) (hy64:y<18446744073709551616):floatBits .add .f64 x y=if x=y then some x else none:=by
 show ((Ieee.double.read x).sum (Ieee.double.read y)).map Ieee.double.write=_
 rw [aM hx,aM hy]
 rcases (show x=9218868437227405312∨x=18442240474082181120 by omega) with e | e<;>rcases (show y=9218868437227405312∨y=18442240474082181120 by omega) with e' | e'<;>subst e<;>subst e'<;>decide+kernel

set_option maxHeartbeats 1600000 in
theorem ki (u v:Int) (w:World) (h:U64 u) (h':U64 v) (hc:af u=true∨(af u=false∧af v=true)∨(af u=false∧af v=false∧aX u=true∧aX v=true∧(u==v)=false)) :
  Calls Tryz.prog 38 #[.int .u64 u,.int .u64 v] w fun e w'=>e=.returned (.int .u64 9221120237041090561)∧w'=w:=by
 rcases hc with h1 | ⟨h1,h2⟩| ⟨h1,h2,h3,h4,h5⟩
 all_goals
  go_enter Tryz.func38,Tryz.ntmps38
  go_wp2_with (first | (go_at_call_of 76 (Value.int IntKind.u64 u);refine (aj u _ h).mono ?_;rintro e w' ⟨rfl,rfl⟩) | (go_at_call_of 76 (Value.int IntKind.u64 v);refine (aj v _ h').mono ?_;rintro e w' ⟨rfl,rfl⟩) | (go_at_call_of 77 (Value.int IntKind.u64 u);refine (ar u _ h).mono ?_;rintro e w' ⟨rfl,rfl⟩) | (go_at_call_of 77 (Value.int IntKind.u64 v);refine (ar v _ h').mono ?_;rintro e w' ⟨rfl,rfl⟩))
  go_ret
  exact⟨rfl,rfl⟩

set_option maxHeartbeats 1600000 in
theorem kj (u v r:Int) (w:World) (h:U64 u) (h':U64 v) (hn:af u=false) (hn':af v=false) (hc:(aX u=true∧aX v=true∧(u==v)=true∧r=u)∨(aX u=true∧aX v=false∧r=u)∨(aX u=false∧aX v=true∧r=v)) :
  Calls Tryz.prog 38 #[.int .u64 u,.int .u64 v] w fun e w'=>e=.returned (.int .u64 r)∧w'=w:=by
 rcases hc with⟨h1,h2,h3,hr⟩| ⟨h1,h2,hr⟩| ⟨h1,h2,hr⟩
 all_goals
  have HR:=ae hr
  clear hr
  go_enter Tryz.func38,Tryz.ntmps38
  go_wp2_with (first | (go_at_call_of 76 (Value.int IntKind.u64 u);refine (aj u _ h).mono ?_;rintro e w' ⟨rfl,rfl⟩) | (go_at_call_of 76 (Value.int IntKind.u64 v);refine (aj v _ h').mono ?_;rintro e w' ⟨rfl,rfl⟩) | (go_at_call_of 77 (Value.int IntKind.u64 u);refine (ar u _ h).mono ?_;rintro e w' ⟨rfl,rfl⟩) | (go_at_call_of 77 (Value.int IntKind.u64 v);refine (ar v _ h').mono ?_;rintro e w' ⟨rfl,rfl⟩))
  go_ret
  exact⟨ck HR.out.symm,rfl⟩

set_option maxHeartbeats 1600000 in
theorem AR (x y:Nat) (u v R:Int) (w:World) (hu:Hid (u=(x:Int))) (hv:Hid (v=(y:Int))) (h:U64 u) (h':U64 v) (hx:ah x) (hy:ah y) (hR:Hid ((iC (sB x) (sB y) (vI x+vI y):Int)=R)) (hn:af u=false) (hn':af v=false) (hi:aX u=false) (hi':aX v=false) :
  Calls Tryz.prog 38 #[.int .u64 u,.int .u64 v] w fun e w'=>e=.returned (.int .u64 R)∧Below w.heap.size w w':=by
 have HN1:=ae (aj u · h)
 have HN2:=ae (aj v · h')
 have HI1:=ae (ar u · h)
 have HI2:=ae (ar v · h')
 rw [hn] at HN1
 rw [hn'] at HN2
 rw [hi] at HI1
 rw [hi'] at HI2
 have HO1:=ae fun w=>gL x u w hu h hx
 have HO2:=ae fun w=>gL y v w hv h' hy
 have HSz:=ae (ax u · h)
 have HNo:=ae fun (hT:vI x+vI y=0)=>II hu.out hv.out h h' hT
 clear hx hy hn hn' hi hi' h h'
 go_enter Tryz.func38,Tryz.ntmps38
 go_wp2_with fail
 refine (bL (HN1.out _)).mono ?_
 rintro e w' ⟨rfl,rfl⟩
 go_wp2_with fail
 refine (bL (HN2.out _)).mono ?_
 rintro e w' ⟨rfl,rfl⟩
 go_wp2_with fail
 refine (bL (HI1.out _)).mono ?_
 rintro e w' ⟨rfl,rfl⟩
 go_wp2_with fail
 refine (bL (HI1.out _)).mono ?_
 rintro e w' ⟨rfl,rfl⟩
 go_wp2_with fail
 refine (bL (HI2.out _)).mono ?_
 rintro e w' ⟨rfl,rfl⟩
 go_wp2_with fail
 refine (HO1.out _).mono ?_
 rintro r w1 ⟨nx,vx,X,ex,rfl,hdx,hX,hb1⟩
 have HB1:=ae hb1
 have HDx:=ae hdx
 have HX:=ae hX
 clear hb1 hdx hX
 go_wp2_with fail
 refine (HO2.out _).mono ?_
 rintro r w2 ⟨ny,vy,Y,ey,rfl,hdy,hY,hb2⟩
 have HB2:=ae (HB1.out.trans (hb2.mono HB1.out.size))
 have HDx2:=ae (HDx.out.below hb2)
 have HDy:=ae hdy
 have HY:=ae hY
 clear hb2 hdy hY HB1 HDx
 obtain⟨E,hE⟩:∃ E,nB X ex Y ey=E:=⟨_,rfl⟩
 obtain⟨n,m,k,hA⟩:=MG HX.out HY.out hE
 have HP:=ae (Hx nx ny vx vy ex ey E X Y n m w2 HDx2.out HDy.out hE hA.hn hA.hm (by have:=hA.hn1;omega) (by have:=hA.hm1;omega) (by have:=fK HX.out.lt;omega) (by have:=fK HY.out.lt;omega) hA.had hA.hbd)
 have HA:=ae hA
 clear hA hE
 go_wp2_with fail
 refine HP.out.mono ?_
 rintro r w3 ⟨neg,vs,N,E',rfl,hds,hfs,hs,hEE,hb3⟩
 have HB3:=ae (HB2.out.trans (hb3.mono HB2.out.size))
 obtain⟨p,l,c,rfl⟩:=hds.shape
 have HD3:=ae hds
 have HEr:Hid (nd N≤1000000∧-10000000≤E'∧E'≤10000000):=by
  obtain⟨K,hK,h1⟩:=HA.out.small
  rw [← hs,fE] at h1
  have h2:=mz hK h1
  have h3:=HA.out.lo
  have h4:=HA.out.hi
  refine⟨by omega,?_,?_⟩ <;>rcases hEE with e | ⟨e,_⟩ <;>omega
 have HV:Hid (N≠0→bZ neg N E' false=R):=fun h0=>by rw [← hR.out];exact MH HA.out hs hEE h0
 have HT:Hid (N=0→vI x+vI y=0):=fun h0=>by rw [← HA.out.val,← hs,h0,cg,Int.zero_mul]
 clear hds hfs hs hEE hb3 HB2 HA HP HDx2 HDy HX HY HO1 HO2
 have HBox:=ae (aJ w3 neg (.slice p l c) E')
 have HDb:=ae (HD3.out.below HBox.out)
 have HB3b:=ae (HB3.out.trans (HBox.out.mono HB3.out.size))
 go_wp2_with fail
 by_cases h0:N=0
 ·have HT0:=ae (HNo.out (HT.out h0))
  rw [hR.out] at HT0
  refine (aY _ _ _ N true _ HDb.out (decide_eq_true h0)).mono ?_
  rintro r w4 ⟨rfl,hb4⟩
  have HB4:=ae (HB3b.out.trans (hb4.mono HB3b.out.size))
  clear hb4 h0
  rcases HT0.out with⟨⟨a1,a2⟩,a3⟩| ⟨a1 | ⟨a1,a2⟩,a3⟩
  all_goals
   have HA3:=ae a3
   clear a3 HT0
   go_wp2_with (go_at_call 78;refine (bL (HSz.out _)).mono ?_;rintro r w5 ⟨rfl,rfl⟩)
   go_ret
   exact⟨ck HA3.out,HB4.out⟩
 ·refine (aY _ _ _ N false _ HDb.out (decide_eq_false h0)).mono ?_
  rintro r w4 ⟨rfl,hb4⟩
  obtain⟨c0,c1,c2⟩:=jo hb4
  have HB4:=ae (HB3b.out.trans (hb4.mono HB3b.out.size))
  have HNr:=ae (iL neg _ E' N w4 (HDb.out.below hb4) HEr.out.1 HEr.out.2.1 HEr.out.2.2)
  rw [HV.out h0] at HNr
  clear hb4 h0 HDb HBox HB3b HB3 HD3 HEr HV HT HNo
  go_wp2_with fail
  refine HNr.out.mono ?_
  rintro r w5 ⟨rfl,hb5⟩
  have HB5:=ae (HB4.out.trans (hb5.mono HB4.out.size))
  clear hb5
  go_wp2_with fail
  go_ret
  exact⟨rfl,HB5.out⟩

theorem hU (x y:Nat) (u v:Int) (w:World) (hu:Hid (u=(x:Int))) (hv:Hid (v=(y:Int))) (h:U64 u) (h':U64 v) :
  Calls Tryz.prog 38 #[.int .u64 u,.int .u64 v] w fun e w'=>e=.returned (.int .u64 (cn (floatBits .add .f64 x y):Int))∧Below w.heap.size w w':=by
 have hx64:x<18446744073709551616:=by have:=h.2;rw [hu.out] at this;omega
 have hy64:y<18446744073709551616:=by have:=h'.2;rw [hv.out] at this;omega
 have same:∀ {r:Int},(Calls Tryz.prog 38 #[.int .u64 u,.int .u64 v] w fun e w'=>e=.returned (.int .u64 r)∧w'=w)→(cn (floatBits .add .f64 x y):Int)=r→Calls Tryz.prog 38 #[.int .u64 u,.int .u64 v] w fun e w'=>e=.returned (.int .u64 (cn (floatBits .add .f64 x y):Int))∧Below w.heap.size w w':=fun hc e=>by
  rw [e]
  exact hc.mono fun _ _ ⟨a,b⟩=>⟨a,by rw [b];exact Below.refl _ _⟩
 cases hn:af u with
 | true=>
  refine same (ki u v w h h' (Or.inl hn)) ?_
  rw [dQ (by rw [← hu.out];exact hn)];rfl
 | false=>
  cases hn':af v with
  | true=>
   refine same (ki u v w h h' (Or.inr (Or.inl ⟨hn,hn'⟩))) ?_
   rw [eG (by rw [← hv.out];exact hn')];rfl
  | false=>
   cases hi:aX u with
   | true=>
    have ix:=gR hu.out hi
    cases hi':aX v with
    | true=>
     have iy:=gR hv.out hi'
     by_cases hq:x=y
     ·refine same (kj u v u w h h' hn hn' (Or.inl ⟨hi,hi',by rw [hu.out,hv.out,hq];exact beq_self_eq_true _,rfl⟩)) ?_
      rw [qe ix iy hx64 hy64,if_pos hq,ao,hu.out]
     ·refine same (ki u v w h h' (Or.inr (Or.inr ⟨hn,hn',hi,hi',?_⟩))) ?_
      ·rw [hu.out,hv.out];simp;omega
      ·rw [qe ix iy hx64 hy64,if_neg hq];rfl
    | false=>
     have ny:=gQ hv.out hn' hi'
     refine same (kj u v u w h h' hn hn' (Or.inr (Or.inl ⟨hi,hi',rfl⟩))) ?_
     rw [(lw ix ny hx64).1,ao,hu.out]
   | false=>
    have nx:=gQ hu.out hn hi
    cases hi':aX v with
    | true=>
     have iy:=gR hv.out hi'
     refine same (kj u v v w h h' hn hn' (Or.inr (Or.inr ⟨hi,hi',rfl⟩))) ?_
     rw [(lw iy nx hy64).2,ao,hv.out]
    | false=>
     have ny:=gQ hv.out hn' hi'
     have e:cn (floatBits .add .f64 x y)=iC (sB x) (sB y) (vI x+vI y):=by rw [kG nx ny,ao];rfl
     rw [e]
     exact AR x y u v _ w hu hv h h' nx ny rfl hn hn' hi hi'
end Go.Proofs.YtkooknagalgfpaaGreat
namespace Go.Proofs.YtkooknagalgfpaaGreat
open Go.RowKit

theorem AS {s:Bool} {r:Nat} (h:r≤9218868437227405312):wrd s r<18446744073709551616:=by unfold wrd;split<;>omega
theorem write_lt (d:Ieee.Datum) (h:∀ s f,d≠.nan s f):Ieee.double.write d<18446744073709551616:=by
 cases d with
 | nan s f=>exact absurd rfl (h s f)
 | infinity s=>rw [cP];exact AS (Nat.le_refl _)
 | number s m i=>
  show Ieee.double.nearest s m i<_
  by_cases h0:m=0
  ·rw [h0,bR,dJ];exact AS (Nat.zero_le _)
  ·rw [bG s h0,dJ];exact AS (Nat.min_le_right _ _)
theorem IJ {a b d:Ieee.Datum} (h:a.sum b=some d):∀ s f,d≠.nan s f:=by
 intro s f e
 subst e
 cases a<;>cases b<;>simp [Ieee.Datum.sum] at h
theorem AT {a b d:Ieee.Datum} (h:a.product b=some d):∀ s f,d≠.nan s f:=by
 intro s f e
 subst e
 cases a<;>cases b<;>simp [Ieee.Datum.product] at h
theorem xU {a b d:Ieee.Datum} {k:Nat} (h:a.quotient k b=some d):∀ s f,d≠.nan s f:=by
 intro s f e
 subst e
 cases a<;>cases b<;>simp [Ieee.Datum.quotient] at h
 split at h
 ·split at h<;>cases h
 ·cases h
theorem uT {o:Option Ieee.Datum} {r:Nat} (ho:∀ d,o=some d→∀ s f,d≠.nan s f) (h:o.map Ieee.double.write=some r):r<18446744073709551616:=by
 cases o with
 | none=>cases h
 | some d=>
  have:Ieee.double.write d=r:=Option.some.inj h
  rw [← this];exact write_lt d (ho d rfl)
theorem iP {op:BinOp} (ho:op=.add∨op=.sub∨op=.mul∨op=.quo) {x y r:Nat} (h:floatBits op .f64 x y=some r):r<18446744073709551616:=by
 rcases ho with rfl | rfl | rfl | rfl
 ·exact uT (o:=(Ieee.double.read x).sum (Ieee.double.read y)) (fun d hd=>IJ hd) h
 ·exact uT (o:=(Ieee.double.read x).sum (Ieee.double.read y).opposite) (fun d hd=>IJ hd) h
 ·exact uT (o:=(Ieee.double.read x).product (Ieee.double.read y)) (fun d hd=>AT hd) h
 ·exact uT (o:=(Ieee.double.read x).quotient 54 (Ieee.double.read y)) (fun d hd=>xU hd) h
theorem CF {op:BinOp} (ho:op=.add∨op=.sub∨op=.mul∨op=.quo) (x y:Nat):cn (floatBits op .f64 x y)<18446744073709551616:=by
 cases h:floatBits op .f64 x y with
 | none=>decide
 | some r=>exact iP ho h
theorem qg:af ((9221120237041090561:Nat):Int)=true:=by decide
theorem IL (o:Option Nat):Ag o (cn o):=by
 cases o with
 | none=>exact⟨qg,by decide⟩
 | some r=>rfl
def FitL (l:List Nat):Prop:=∀ x ∈ l,x<18446744073709551616
theorem FitL.get {l:List Nat} (h:FitL l) (i:Nat):l.getD i 0<18446744073709551616:=by
 by_cases hi:i<l.length
 ·have e:l.getD i 0=l[i]:=by simp [List.getD,List.getElem?_eq_getElem hi]
  rw [e];exact h _ (List.getElem_mem hi)
 ·have e:l.getD i 0=0:=by simp [List.getD,List.getElem?_eq_none (show l.length≤i by omega)]
  rw [e];decide

theorem xW (o:Option Nat) (x:Nat):floatBits .mul .f64 (cn o) x=o.bind fun p=>floatBits .mul .f64 p x:=by
 cases o with
 | none=>rw [kZ,dQ qg];rfl
 | some r=>rfl
theorem xX (o:Option Nat) (x:Nat):floatBits .add .f64 (cn o) x=o.bind fun p=>floatBits .add .f64 p x:=by
 cases o with
 | none=>rw [kZ,dQ qg];rfl
 | some r=>rfl
theorem qh (x c:Nat) (o:Option Nat):floatBits .add .f64 (cn (floatBits .mul .f64 (cn o) x)) c=fD x o c:=by
 rw [xW,xX];rfl

set_option maxHeartbeats 1600000 in
theorem jP (B n x:Nat) (v:Value) (u:Int) (cs:List Nat) (w:World) (hO:OwnF w B 49 uV v cs) (hf:FitL cs) (hu:Hid (u=(x:Int))) (h:Hid (U64 u)) (hN:cs.length=n) (hn:n≤1000000) :
  Calls Tryz.prog 175 #[v,.int .u64 u] w fun e w'=>e=.returned (.int .u64 (cn (aZ cs x):Int))∧Below w.heap.size w w':=by
 obtain⟨p,g,c,rfl,ha,hr⟩:=hO.shape
 rw [hN]
 have HF:=hideS hf
 have HN:=hideS hN
 have HR:=hideS hr
 by_cases h0:n=0
 ·subst h0
  have HRes:Hid (aZ cs x=some 0):=by show _=_;unfold aZ;rw [if_pos hN]
  rw [HRes.out]
  clear hO hf hN ha hr HR HF HN
  go_enter Tryz.func175,Tryz.ntmps175
  go_wp2
  go_ret
  exact⟨rfl,Below.refl _ _⟩
 obtain⟨m,rfl⟩:∃ m,n=m+1:=⟨n - 1,by omega⟩
 obtain⟨rfl,_,hg⟩:=ha (by omega)
 have hc0:w.cell? ⟨g,m,none⟩=some (.int .u64 ((cs.getD m 0:Nat):Int)):=hr m (by omega)
 have HRes:Hid (aZ cs x=hornAt cs x m):=by show _=_;unfold aZ;rw [if_neg (by omega),hN];rfl
 have HA0:Hid (((cs.getD m 0:Nat):Int)=(cn (hornAt cs x 0):Int)):=by show _=_;unfold hornAt;rw [hN];rfl
 have HA1:Hid (∀ i,hornAt cs x (i+1)=fD x (hornAt cs x i) (cs.getD (m - 1 - i) 0)):=fun i=>by
  show fD x (hornAt cs x i) (cs.getD (cs.length - 2 - i) 0)=_
  rw [hN];rfl
 have HU0:=hideS (an (hf.get m))
 generalize ((cs.getD m 0:Nat):Int)=p0 at hc0 HA0 HU0
 rw [HRes.out]
 obtain⟨res,hres⟩:∃ res:Int,(cn (hornAt cs x m):Int)=res:=⟨_,rfl⟩
 rw [hres]
 have HRs:=hideS hres
 have hm0:((m:Int)+1==0)=false:=by simp;omega
 clear hO hf hN ha hr h0 HRes hres
 go_enter Tryz.func175,Tryz.ntmps175
 go_wp2_with fail
 go_loopw [5,6] (fun s i wr=>∃ (t a:Int),-1≤t∧t<(m:Int)∧i=.int .i64 t∧s=.int .u64 a∧Hid (∃ k:Nat,(k:Int)=(m:Int) - 1 - t∧a=(cn (hornAt cs x k):Int))∧Hid (U64 a)∧Hid (Below w.heap.size w wr)) (fun _ i _=>(intOf i+1).toNat)
 case atStart=>exact⟨(m:Int) - 1,p0,by omega,by omega,by congr 1;omega,rfl,⟨0,by omega,HA0.out⟩,HU0,Below.refl _ _⟩
 case round=>
  obtain⟨t,a,ht1,ht2,rfl,rfl,HK,HU,HB⟩:=hrel
  by_cases hlt:0≤t
  ·obtain⟨j,rfl⟩:=Int.eq_ofNat_of_zero_le hlt
   obtain⟨k,hk,ha⟩:=HK.out
   have HA:=hideS ha
   have hj:m - 1 - k=j:=by omega
   have hjn:j<cs.length:=by rw [HN.out];omega
   have hcx:wr.cell? ⟨g,j,none⟩=some (.int .u64 ((cs.getD j 0:Nat):Int)):=(HB.out.cell (p:=⟨g,j,none⟩) hg).trans (HR.out j hjn)
   have HA2:=hideS (HA1.out k)
   rw [hj] at HA2
   have HUy:=hideS (an (HF.out.get j))
   obtain⟨y,hy⟩:∃ y:Nat,cs.getD j 0=y:=⟨_,rfl⟩
   rw [hy] at hcx HA2 HUy
   obtain⟨yi,hyi⟩:∃ yi:Int,yi=(y:Int):=⟨_,rfl⟩
   rw [← hyi] at hcx HUy
   have HYI:=hideS hyi
   have hgz:g<wr.heap.size:=Nat.lt_of_lt_of_le hg HB.out.size
   obtain⟨q,hq⟩:∃ q:Int,q=(cn (floatBits .mul .f64 (cn (hornAt cs x k)) x):Int):=⟨_,rfl⟩
   obtain⟨z,hz⟩:∃ z:Int,z=(cn (hornAt cs x (k+1)):Int):=⟨_,rfl⟩
   have HM:Hid (∀ w,Calls Tryz.prog 37 #[.int .u64 a,.int .u64 u] w fun e w'=>e=.returned (.int .u64 q)∧Below w.heap.size w w'):=fun w=>by rw [hq];exact ke _ x a u w HA hu HU.out h.out
   have HD:Hid (∀ w,Calls Tryz.prog 38 #[.int .u64 q,.int .u64 yi] w fun e w'=>e=.returned (.int .u64 z)∧Below w.heap.size w w'):=fun w=>by
    have:=hU (cn (floatBits .mul .f64 (cn (hornAt cs x k)) x)) y q yi w hq HYI (by rw [hq];exact an (CF (by simp) _ _)) HUy.out
    rw [qh,← HA2.out,← hz] at this
    exact this
   have HZ:Hid (z=(cn (hornAt cs x (k+1)):Int)):=hz
   have HUz:Hid (U64 z):=by rw [HZ.out,HA2.out,← qh];exact an (CF (by simp) _ _)
   have HK2:Hid (∃ k:Nat,(k:Int)=(m:Int) - 1 - ((j:Int) - 1)∧z=(cn (hornAt cs x k):Int)):=⟨k+1,by omega,HZ.out⟩
   have hjm:(j:Int)<(m:Int)+1:=by omega
   clear hq hz hyi hy hj HA2 HA hk ha hjn HK ht1
   go_wp2_with fail
   go_region_held3 (fun w'=>w'.cell? ⟨g,j,none⟩=some (.int .u64 yi)) (first | exact hcx | exact (hb3.cell (p:=⟨g,j,none⟩) hgz).trans hcx | exact (hb4.cell (p:=⟨g,j,none⟩) (Nat.lt_of_lt_of_le hgz hb3.size)).trans ((hb3.cell (p:=⟨g,j,none⟩) hgz).trans hcx) | go_keep) (first | ((go_at_call 37;refine (HM.out _).mono ?_;rintro e w3 ⟨rfl,hb3⟩)) | ((go_at_call 38;refine (HD.out _).mono ?_;rintro e w4 ⟨rfl,hb4⟩)))
   have HB3:=hideS (HB.out.drew.trans (hb3.mono (show w.heap.size≤wr.heap.size from HB.out.size)))
   have HB4:=hideS (HB3.out.trans (hb4.mono HB3.out.size))
   clear hb3 hb4 HB3 HM HD
   go_wp2_with fail
   go_roundw
   case rel=>exact⟨(j:Int) - 1,z,by omega,by omega,rfl,rfl,HK2,HUz,HB4⟩
   case measure=>simp [intOf]
  ·obtain rfl:t= -1:=by omega
   have HE:Hid (a=res):=by
    obtain⟨k,hk,ha⟩:=HK.out
    have:k=m:=by omega
    rw [← HRs.out,← this];exact ha
   clear HK
   go_wp2
   go_ret
   exact⟨ck HE.out,HB.out⟩
end Go.Proofs.YtkooknagalgfpaaGreat
