/-  -/
import Derived.Test.YtkooknagalgfpaaGreatHat
namespace Go.Proofs.YtkooknagalgfpaaGreat
open Go.RowKit

theorem pD {z:Int} (h0:0≤z) (h:z<18446744073709551616):bits .and .u64 z 4503599627370495=z % 4503599627370496:=by
 obtain⟨b,rfl⟩:=Int.eq_ofNat_of_zero_le h0
 have:=bits_and_u64_nat b 4503599627370495 (by omega) (by decide)
 rw [show ((4503599627370495:Nat):Int)=4503599627370495 from rfl] at this
 rw [this]
 have e:=Nat.and_two_pow_sub_one_eq_mod b 52
 rw [show (2:Nat)^52 - 1=4503599627370495 from rfl,show (2:Nat)^52=4503599627370496 from rfl] at e
 rw [e];omega
theorem Ea {z:Int} (h0:0≤z) (h:z<4503599627370496):bits .or .u64 z 4503599627370496=4503599627370496+z:=by
 obtain⟨b,rfl⟩:=Int.eq_ofNat_of_zero_le h0
 have:=bits_or_u64_nat b 4503599627370496 (by omega) (by decide)
 rw [show ((4503599627370496:Nat):Int)=4503599627370496 from rfl] at this
 rw [this]
 have h2:=Nat.two_pow_add_eq_or_of_lt (i:=52) (b:=b) (by omega) 1
 rw [Nat.or_comm,show (4503599627370496:Nat)=2^52*1 from rfl,← h2]
 omega

def iu (z:Int):Int:=if z<4503599627370496 then z else 4503599627370496+z % 4503599627370496
def mq (z:Int):Int:=if z<4503599627370496 then -1074 else z / 4503599627370496 - 1075
def bf (u:Int):Bool:=decide (szI u<9218868437227405312)
def aG (u:Int):Int:=if bf u then (if sgB u then -iu (szI u) else iu (szI u)) else 0
def bg (u:Int):Int:=if bf u&&decide (szI u≠0) then mq (szI u) else 0

set_option maxHeartbeats 400000 in
theorem Hv (b:Nat) (u:Int) (w:World) (hu:Hid (u=b)) (h:U64 u) (h1:9218868437227405312≤szI u) :
  Calls Tryz.prog 104 #[.float .f64 b] w fun e w'=>e=.returned (.tuple #[.int .i64 0,.int .i64 0,.bool false])∧w'=w:=by
 go_enter Tryz.func104,Tryz.ntmps104
 go_wp2_with (go_at_call 139;refine (gD _ _ _ hu h).mono ?_;rintro e w' ⟨rfl,rfl⟩)
 go_ret3
 exact⟨rfl,rfl⟩

set_option maxHeartbeats 400000 in
theorem AA (b:Nat) (u:Int) (w:World) (hu:Hid (u=b)) (h:U64 u) (h1:szI u=0) :
  Calls Tryz.prog 104 #[.float .f64 b] w fun e w'=>e=.returned (.tuple #[.int .i64 0,.int .i64 0,.bool true])∧w'=w:=by
 go_enter Tryz.func104,Tryz.ntmps104
 go_wp2_with (go_at_call 139;refine (gD _ _ _ hu h).mono ?_;rintro e w' ⟨rfl,rfl⟩)
 go_ret3
 exact⟨rfl,rfl⟩

set_option maxHeartbeats 400000 in
theorem Eb (b:Nat) (u:Int) (w:World) (hu:Hid (u=b)) (h:U64 u) (h1:0<szI u) (h2:szI u<4503599627370496) :
  Calls Tryz.prog 104 #[.float .f64 b] w fun e w'=>e=.returned (.tuple #[.int .i64 (if sgB u then -szI u else szI u),.int .i64 (-1074),.bool true])∧w'=w:=by
 cases hs:sgB u
 all_goals
  simp only [Bool.false_eq_true,if_true,if_false]
  go_enter Tryz.func104,Tryz.ntmps104
  go_wp2_with (first | (go_at_call 139;refine (gD _ _ _ hu h).mono ?_;rintro e w' ⟨rfl,rfl⟩) | (go_at_call 140;refine (jf _ _ _ hu h).mono ?_;rintro e w' ⟨rfl,rfl⟩))
  go_ret3
  exact⟨rfl,rfl⟩

set_option maxHeartbeats 400000 in
theorem uM (b:Nat) (u m:Int) (w:World) (hu:Hid (u=b)) (h:U64 u) (h1:4503599627370496≤szI u) (h2:szI u<9218868437227405312)
  (hm:bits .or .u64 (bits .and .u64 (szI u) 4503599627370495) 4503599627370496=m) (hm0:4503599627370496≤m) (hm1:m<9007199254740992) :
  Calls Tryz.prog 104 #[.float .f64 b] w fun e w'=>e=.returned (.tuple #[.int .i64 (if sgB u then -m else m),.int .i64 (szI u / 4503599627370496 - 1+ -1074),.bool true])∧w'=w:=by
 cases hs:sgB u
 all_goals
  simp only [Bool.false_eq_true,if_true,if_false]
  go_enter Tryz.func104,Tryz.ntmps104
  go_wp2_with (first | (go_at_call 139;refine (gD _ _ _ hu h).mono ?_;rintro e w' ⟨rfl,rfl⟩) | (go_at_call 140;refine (jf _ _ _ hu h).mono ?_;rintro e w' ⟨rfl,rfl⟩))
  go_ret3
  exact⟨rfl,rfl⟩

theorem eR (b:Nat) (u:Int) (w:World) (hu:Hid (u=b)) (h:U64 u) :
  Calls Tryz.prog 104 #[.float .f64 b] w fun e w'=>e=.returned (.tuple #[.int .i64 (aG u),.int .i64 (bg u),.bool (bf u)])∧w'=w:=by
 have hlo:=jR u
 have hhi:=Gr u
 by_cases h1:szI u<9218868437227405312
 ·have e1:bf u=true:=by simp [bf,h1]
  by_cases h2:szI u=0
  ·have e2:aG u=0:=by unfold aG iu;rw [h2];simp
   have e3:bg u=0:=by unfold bg;rw [h2];simp
   rw [e1,e2,e3];exact AA b u w hu h h2
  ·by_cases h3:szI u<4503599627370496
   ·have e2:aG u=if sgB u then -szI u else szI u:=by unfold aG iu;rw [e1,if_pos h3];rfl
    have e3:bg u= -1074:=by unfold bg mq;simp [e1,h2,h3]
    rw [e1,e2,e3];exact Eb b u w hu h (by omega) h3
   ·have e2:aG u=if sgB u then -(4503599627370496+szI u % 4503599627370496) else 4503599627370496+szI u % 4503599627370496:=by unfold aG iu;rw [e1,if_neg h3];rfl
    have e3:bg u=szI u / 4503599627370496 - 1+ -1074:=by unfold bg mq;simp [e1,h2,h3];omega
    rw [e1,e2,e3]
    exact uM b u _ w hu h (by omega) h1 (by rw [pD hlo (by omega),Ea (by omega) (by omega)]) (by omega) (by omega)
 ·have e1:bf u=false:=by simp [bf,h1]
  have e2:aG u=0:=by simp [aG,e1]
  have e3:bg u=0:=by simp [bg,e1]
  rw [e1,e2,e3];exact Hv b u w hu h (by omega)
end Go.Proofs.YtkooknagalgfpaaGreat
namespace Go.Proofs.YtkooknagalgfpaaGreat

theorem gN (x:Nat):vI x=sgZ (sB x) (aV x):=rfl
theorem xC {a:Int} {K:Nat} (hK:K=1074) (h1: -9007199254740992≤a) (h2:a≤9007199254740992):aV (fi a)=a.natAbs*2^K∧sB (fi a)=decide (a<0)∧ah (fi a)∧fi a<18446744073709551616:=by
 obtain⟨b1,b2,b3,b4⟩:=ni hK h1 h2
 refine⟨?_,b3,b2,b4⟩
 have h3:(vI (fi a)).natAbs=aV (fi a):=by
  rw [gN];unfold sgZ;cases sB (fi a)<;>simp
 rw [← h3,b1,bM]
def P2 (k:Int):Nat:=nearR 1 k
theorem Oa {k:Int} (h1: -1022≤k) (h2:k≤1023):P2 k=(k+1023).toNat*4503599627370496:=by
 unfold P2
 have hl:Nat.log2 1=0:=by decide
 rw [kB (by decide) (by decide) (by rw [hl];omega) (by rw [hl];omega),hl,show rne (1*2^(63 - 0)) 11=4503599627370496 by decide]
 omega
theorem Ia {k:Int} (h1: -1022≤k) (h2:k≤1023):ah (P2 k)∧sB (P2 k)=false∧P2 k<9218868437227405312∧mg (P2 k % 9223372036854775808)=4503599627370496∧pl (P2 k % 9223372036854775808)=(k+1022).toNat:=by
 rw [Oa h1 h2]
 obtain⟨n,hn⟩:∃ n:Nat,(k+1023).toNat=n:=⟨_,rfl⟩
 have hk:k=(n:Int) - 1023:=by omega
 subst hk
 rw [hn]
 have hn1:1≤n:=by omega
 have hn2:n≤2046:=by omega
 have e:n*4503599627370496 % 9223372036854775808=n*4503599627370496:=by omega
 refine⟨by unfold ah;omega,?_,by omega,?_,?_⟩
 ·unfold sB;rw [show n*4503599627370496 / 9223372036854775808=0 by omega];rfl
 ·rw [e];unfold mg;rw [if_neg (by omega)];omega
 ·rw [e];unfold pl;omega
theorem OW {a b:Nat} (h:52+a=b):4503599627370496*2^a=2^b:=by
 subst h
 have:=Nat.pow_add 2 52 a
 rw [this]
theorem Qe {k:Int} (h1: -1022≤k) (h2:k≤1023):aV (P2 k)=2^(k+1074).toNat:=by
 obtain⟨_,_,_,a,b⟩:=Ia h1 h2
 unfold aV V
 rw [a,b]
 exact OW (by omega)
theorem LY:P2 0=4607182418800017408:=by rw [Oa (by decide) (by decide)];rfl
theorem OX:fi 1=4607182418800017408:=by
 show aF 1 0=_
 exact LY
end Go.Proofs.YtkooknagalgfpaaGreat
namespace Go.Proofs.YtkooknagalgfpaaGreat

def ic (T p:Int):Int:=if T=0 then 0 else if T<0 then -(nearR T.natAbs p:Int) else (nearR T.natAbs p:Int)
theorem mB (M:Nat) (p:Int):nearR M p≤9218868437227405312:=Nat.min_le_right _ _
theorem cE {T T':Int} (p:Int) (h:T≤T'):ic T p≤ic T' p:=by
 unfold ic
 by_cases h0:T=0
 ·rw [if_pos h0]
  by_cases h1:T'=0
  ·rw [if_pos h1];omega
  ·rw [if_neg h1,if_neg (by omega)];omega
 ·rw [if_neg h0]
  by_cases h1:T'=0
  ·rw [if_pos h1,if_pos (by omega)];omega
  ·rw [if_neg h1]
   by_cases s:T<0
   ·rw [if_pos s]
    by_cases s':T'<0
    ·rw [if_pos s']
     have:=bS p (show T'.natAbs≤T.natAbs by omega)
     omega
    ·rw [if_neg s'];omega
   ·rw [if_neg s,if_neg (by omega)]
    have:=bS p (show T.natAbs≤T'.natAbs by omega)
    omega
theorem vk (T p:Int):ic (-T) p= -ic T p:=by
 unfold ic
 by_cases h0:T=0
 ·rw [if_pos h0,if_pos (by omega)];rfl
 ·rw [if_neg h0,if_neg (by omega),Int.natAbs_neg]
  by_cases s:T<0
  ·rw [if_pos s,if_neg (by omega)];omega
  ·rw [if_neg s,if_pos (by omega)]
def RkW (r:Nat) (k:Int):Prop:=aa (r:Int)=k∧r<18446744073709551616∧af (r:Int)=false
theorem iS {r:Nat} (h:r≤9218868437227405312):RkW r (r:Int):=by
 have hn:af (r:Int)=false:=by unfold af szI;rw [decide_eq_false_iff_not];omega
 have hs:sgB (r:Int)=false:=by unfold sgB;rw [decide_eq_false_iff_not];omega
 refine⟨?_,by omega,hn⟩
 rw [rank_pos hn hs]
 unfold szI
 omega
theorem Bf {r q:Nat} (h:r≤9218868437227405312) (hq:q=9223372036854775808+r):RkW q (-(r:Int)):=by
 have hn:af (q:Int)=false:=by unfold af szI;rw [decide_eq_false_iff_not];omega
 have hs:sgB (q:Int)=true:=by unfold sgB;rw [decide_eq_true_iff];omega
 refine⟨?_,by omega,hn⟩
 unfold aa
 rw [hn,hs]
 simp only [Bool.false_eq_true,if_false,if_true]
 unfold szI
 omega
theorem CS:RkW 0 0:=iS (r:=0) (by omega)
theorem Jk:RkW 9223372036854775808 0:=Bf (r:=0) (by omega) (by omega)
theorem vl {s:Bool} {r:Nat} (h:r≤9218868437227405312):RkW (wrd s r) (sgZ s r):=by
 unfold wrd sgZ
 cases s
 ·simp only [Bool.false_eq_true,if_false];exact iS h
 ·simp only [if_true];exact Bf h rfl
theorem ES (T p:Int):RkW (aF T p) (ic T p):=by
 unfold aF ic
 by_cases h0:T=0
 ·rw [if_pos h0,if_pos h0];exact CS
 ·rw [if_neg h0,if_neg h0]
  have hr:=mB T.natAbs p
  generalize nearR T.natAbs p=r at *
  by_cases s:T<0
  ·rw [if_pos s,if_pos s]
   exact Bf hr rfl
  ·rw [if_neg s,if_neg s]
   exact iS hr
theorem tA (s t:Bool) (T:Int):RkW (iC s t T) (ic T (-1074)):=by
 unfold iC
 by_cases h0:T=0
 ·have e:ic T (-1074)=0:=by unfold ic;rw [if_pos h0]
  rw [if_pos h0,e]
  cases hs:(s&&t)
  ·simp only [Bool.false_eq_true,if_false];exact CS
  ·simp only [if_true];exact Jk
 ·rw [if_neg h0];exact ES T _
theorem ET (s:Bool) (T:Nat):RkW (mulR s T) (ic (sgZ s T) (-2148)):=by
 unfold mulR
 by_cases h0:T=0
 ·have e0:sgZ s T=0:=by unfold sgZ;rw [h0];cases s<;>simp
  have e:ic (sgZ s T) (-2148)=0:=by unfold ic;rw [if_pos e0]
  rw [if_pos h0,e]
  have:=vl (s:=s) (r:=0) (by omega)
  have e2:sgZ s 0=0:=by unfold sgZ;cases s<;>simp
  rw [e2] at this
  exact this
 ·rw [if_neg h0]
  have hr:=mB T (-2148)
  have hw:=vl (s:=s) hr
  have e:ic (sgZ s T) (-2148)=sgZ s (nearR T (-2148)):=by
   unfold ic sgZ
   generalize hM:nearR T (-2148)=M
   cases s
   ·simp only [Bool.false_eq_true,if_false]
    rw [if_neg (by omega),if_neg (by omega),Int.natAbs_natCast,hM]
   ·simp only [if_true]
    rw [if_neg (by omega),if_pos (by omega),Int.natAbs_neg,Int.natAbs_natCast,hM]
  rw [e]
  exact hw
theorem tB (x:Nat):vI x=sgZ (sB x) (aV x):=rfl
theorem EU (s t:Bool) (m n:Nat):sgZ s m*sgZ t n=sgZ (s^^t) (m*n):=by
 unfold sgZ
 cases s<;>cases t<;>simp [Int.neg_mul,Int.mul_neg]
theorem fp {x y:Nat} (hx:ah x) (hy:ah y):∃ r,floatBits .add .f64 x y=some r∧RkW r (ic (vI x+vI y) (-1074)):=⟨_,kG hx hy,tA _ _ _⟩
theorem iT {x y:Nat} (hx:ah x) (hy:ah y):∃ r,floatBits .sub .f64 x y=some r∧RkW r (ic (vI x - vI y) (-1074)):=⟨_,us hx hy,tA _ _ _⟩
theorem dq {x y:Nat} (hx:ah x) (hy:ah y):∃ r,floatBits .mul .f64 x y=some r∧RkW r (ic (vI x*vI y) (-2148)):=by
 refine⟨_,gF hx hy,?_⟩
 rw [tB x,tB y,EU]
 exact ET _ _
theorem ju {x:Nat} (h:ah x):af (x:Int)=false:=by unfold ah at h;unfold af szI;rw [decide_eq_false_iff_not];omega
theorem nL {a b:Nat} (ha:ah a) (hb:ah b) (ha2:a<18446744073709551616) (hb2:b<18446744073709551616):aa a<aa b↔vI a<vI b:=by
 rw [← bU ha2 (ju ha),← bU hb2 (ju hb)]
 have e1:vI a=sgZ (a / 9223372036854775808 % 2==1) (V (a % 9223372036854775808)):=rfl
 have e2:vI b=sgZ (b / 9223372036854775808 % 2==1) (V (b % 9223372036854775808)):=rfl
 rw [e1,e2]
 generalize a % 9223372036854775808=r at *
 generalize b % 9223372036854775808=s at *
 generalize (a / 9223372036854775808 % 2==1)=p at *
 generalize (b / 9223372036854775808 % 2==1)=q at *
 have h1:=cz (r:=r) (s:=s)
 have h2:=cz (r:=s) (s:=r)
 have h3:=cz (r:=0) (s:=s)
 have h4:=cz (r:=0) (s:=r)
 rw [bC] at h3 h4
 unfold sgn sgZ
 cases p<;>cases q<;>simp only [Bool.false_eq_true,if_true,if_false] at* <;>omega
theorem aN {a b:Nat} (ha:ah a) (hb:ah b) (ha2:a<18446744073709551616) (hb2:b<18446744073709551616):aa a≤aa b↔vI a≤vI b:=by
 have:=nL hb ha hb2 ha2
 omega
theorem iU {r:Nat} {k:Int} (h:RkW r k) (h0: -9218868437227405312<k) (h1:k<9218868437227405312):ah r:=by
 obtain⟨e,h2,hn⟩:=h
 rw [← bU h2 hn] at e
 unfold ah
 unfold sgn at e
 generalize (r / 9223372036854775808 % 2==1)=p at *
 cases p<;>simp only [Bool.false_eq_true,if_true,if_false] at e<;>omega
end Go.Proofs.YtkooknagalgfpaaGreat
