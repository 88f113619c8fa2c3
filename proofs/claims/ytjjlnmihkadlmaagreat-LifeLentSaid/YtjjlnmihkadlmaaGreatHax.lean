/-  -/
import Derived.Test.YtjjlnmihkadlmaaGreatHaw
import Derived.Test.YtjjlnmihkadlmaaGreatHam
import Derived.Test.YtjjlnmihkadlmaaGreatHan
import Derived.Test.YtjjlnmihkadlmaaGreatHav
import Derived.Test.YtjjlnmihkadlmaaGreatHal
namespace Go.Proofs.YtjjlnmihkadlmaaGreat
open Go.RowKit

theorem Cz {cs:List Nat} {x:Nat} (hx:ag (x:Int)=true) (hl:2≤cs.length):aS cs x=none:=by
 obtain⟨k,hk⟩:∃ k,cs.length - 1=k+1:=⟨cs.length - 2,by omega⟩
 unfold aS
 rw [if_neg (by omega),hk]
 show el x (hornAt cs x k) _=none
 unfold el
 cases hornAt cs x k with
 | none=>rfl
 | some p=>
  show (floatBits .mul .f64 p x).bind _=none
  rw [dH hx];rfl
theorem xx {cs:List Nat} {z:Option Nat} {x:Nat} (h:Ag z x) (hl:2≤cs.length):(z.bind fun z=>aS cs z)=aS cs x:=by
 cases z with
 | none=>rw [Cz (fB h).1 hl];rfl
 | some r=>rw [dh h];rfl
def lnO (a b hi lo:Nat):Option Nat:=
 opO .add (some hi) (opO .add (opO .mul (opO .mul (some 4611686018427387904) (floatBits .quo .f64 a b)) ((opO .mul (floatBits .quo .f64 a b) (floatBits .quo .f64 a b)).bind fun z=>aS lnL z)) (some lo))
theorem lnL_len:lnL.length=11:=by decide
theorem CA {a b hi lo s s2 z h v c r:Nat} (g3:Ag (floatBits .quo .f64 a b) s) (g4:Ag (floatBits .mul .f64 4611686018427387904 s) s2) (g5:Ag (floatBits .mul .f64 s s) z) (g6:Ag (aS lnL z) h) (g7:Ag (floatBits .mul .f64 s2 h) v) (g8:Ag (floatBits .add .f64 v lo) c) (g9:Ag (floatBits .add .f64 hi c) r):Ag (lnO a b hi lo) r:=by
 unfold lnO
 have e0:Ag (some 4611686018427387904) 4611686018427387904:=rfl
 have e4:Ag (opO .mul (some 4611686018427387904) (floatBits .quo .f64 a b)) s2:=by rw [jV e0 g3];exact g4
 have e5:Ag (opO .mul (floatBits .quo .f64 a b) (floatBits .quo .f64 a b)) z:=by rw [jV g3 g3];exact g5
 have e6:Ag ((opO .mul (floatBits .quo .f64 a b) (floatBits .quo .f64 a b)).bind fun z=>aS lnL z) h:=by rw [xx e5 (by rw [lnL_len];decide)];exact g6
 have e7:Ag (opO .mul (opO .mul (some 4611686018427387904) (floatBits .quo .f64 a b)) ((opO .mul (floatBits .quo .f64 a b) (floatBits .quo .f64 a b)).bind fun z=>aS lnL z)) v:=by rw [jV e4 e6];exact g7
 have e8:=jV (op:=.add) (o':=some lo) (c:=lo) e7 rfl
 rw [← e8] at g8
 have e9:=jV (op:=.add) (o:=some hi) (a:=hi) rfl g8
 rw [← e9] at g9
 exact g9

set_option maxRecDepth 20000 in
set_option maxHeartbeats 1600000 in
theorem Ic (x m a b kf hi lo:Nat) (k:Int) (w:World) (h:U64 x) (hn:ag x=false) (hl:(FloatKind.f64.format.order x 0==some .lt)=false) (he:(FloatKind.f64.format.order x 0==some .eq)=false) (hi0:(FloatKind.f64.format.order x 9218868437227405311==some .gt)=false)
  (hA:Hid (∀ w,Calls Tryz.prog 204 #[.float .f64 x] w fun r w'=>r=.returned (.tuple #[.float .f64 m,.int .i64 k])∧∃ q,w'=w.drewN q))
  (q1:floatBits .sub .f64 m 4607182418800017408=some a) (q2:floatBits .add .f64 m 4607182418800017408=some b) (hkf:fi k=kf) (q8:floatBits .mul .f64 kf 4604418534311723008=some hi) (q9:floatBits .mul .f64 kf 4461442080421002358=some lo) :
  Calls Tryz.prog 195 #[.float .f64 x] w fun e w'=>∃ r,e=.returned (.float .f64 r)∧Ag (lnO a b hi lo) r∧Below w.heap.size w w':=by
 have H:=hideS (aU x w h)
 rw [hn] at H
 have HI:=hideS (fa x false w hi0)
 have r1:=fun w=>run_float_arith (P:=Tryz.prog) w .sub 54 .f64 _ _ _ q1
 have r2:=fun w=>run_float_arith (P:=Tryz.prog) w .add 54 .f64 _ _ _ q2
 have hfo:=(be k).trans hkf
 have HL:Hid (∀ w,Calls Tryz.prog 201 #[.float .f64 kf] w fun e w'=>e=.returned (.tuple #[.float .f64 hi,.float .f64 lo])∧w'=w):=fun w=>xv kf hi lo w q8 q9
 clear h hn q1 q2 q8 q9 hi0 hkf
 go_enter Tryz.func195,Tryz.ntmps195
 go_wp2_with fail
 refine (turned H.out).mono ?_
 rintro e w' ⟨rfl,rfl⟩
 clear H
 go_wp2_with fail
 refine (turned HI.out).mono ?_
 rintro e w' ⟨rfl,rfl⟩
 clear HI
 go_wp2_with fail
 refine (hA.out _).mono ?_
 rintro e w' ⟨rfl,q,hw'⟩
 have B0:Hid (Below w.heap.size w w'):=by rw [hw'];exact⟨rfl,rfl,rfl,Nat.le_refl _,fun _ _=>rfl⟩
 clear hw'
 obtain⟨s,⟨q3,r3⟩,g3⟩:=dc .quo (by simp) 54 a b w'
 obtain⟨s2,⟨q4,r4⟩,g4⟩:=dc .mul (by simp) 54 4611686018427387904 s (w'.drewN q3)
 have G3:=hideS g3
 have G4:=hideS g4
 clear g3 g4
 go_wp2_with fail
 obtain⟨w2,hw2⟩:∃ w2,w2=w'.drewN (q3+q4):=⟨_,rfl⟩
 rw [← hw2]
 have B2:Hid (Below w.heap.size w w2):=by rw [hw2];exact⟨B0.out.os,B0.out.tape,B0.out.output,B0.out.size,B0.out.block⟩
 clear hw2 r3 r4 B0
 have HT:=hideS (sS w2)
 refine HT.out.mono ?_
 rintro e w3 ⟨rfl,hs,hb⟩
 have B3:Hid (Below w.heap.size w w3):=B2.out.trans (hb.mono B2.out.size)
 obtain⟨z,⟨q5,r5⟩,g5⟩:=dc .mul (by simp) 54 s s w3
 have HH:Hid (Calls Tryz.prog 202 #[.slice (some ⟨w2.heap.size,0,none⟩) 11 11,.float .f64 z] (w3.drewN q5) fun e w4=>∃ r',e=.returned (.float .f64 r')∧Ag (aS lnL z) r'∧∃ q,w4=(w3.drewN q5).drewN q):=lO _ w2.heap.size 0 11 z 11 lnL (w3.drewN q5) (hs.below ⟨rfl,rfl,rfl,Nat.le_refl _,fun _ _=>rfl⟩) rfl (by decide)
 have G5:=hideS g5
 clear hs hb HT B2 g5
 go_wp2_with fail
 refine HH.out.mono ?_
 rintro e w4 ⟨h',rfl,hag,q6,hw4⟩
 have B4:Hid (Below w.heap.size w w4):=by rw [hw4];exact⟨B3.out.os,B3.out.tape,B3.out.output,B3.out.size,B3.out.block⟩
 obtain⟨v,⟨q7,r7⟩,g7⟩:=dc .mul (by simp) 54 s2 h' w4
 have G6:=hideS hag
 have G7:=hideS g7
 clear hag g7 hw4 HH B3 r5
 go_wp2_with fail
 obtain⟨w5,hw5⟩:∃ w5,w5=w4.drewN q7:=⟨_,rfl⟩
 rw [← hw5]
 have B5:Hid (Below w.heap.size w w5):=by rw [hw5];exact⟨B4.out.os,B4.out.tape,B4.out.output,B4.out.size,B4.out.block⟩
 clear hw5 r7 B4
 refine (turned (HL.out _)).mono ?_
 rintro e w' ⟨rfl,rfl⟩
 obtain⟨c,⟨q8,r8⟩,g8⟩:=dc .add (by simp) 54 v lo w5
 obtain⟨r,⟨q9,r9⟩,g9⟩:=dc .add (by simp) 54 hi c (w5.drewN q8)
 have GE:=hideS (CA G3.out G4.out G5.out G6.out G7.out g8 g9)
 clear g8 g9 G3 G4 G5 G6 G7
 go_wp2_with fail
 go_ret
 exact⟨r,rfl,GE.out,⟨B5.out.os,B5.out.tape,B5.out.output,B5.out.size,B5.out.block⟩⟩
end Go.Proofs.YtjjlnmihkadlmaaGreat
namespace Go.Proofs.YtjjlnmihkadlmaaGreat
open Go.RowKit

def oneB (N:Nat):Nat:=4602678819172646912+N*2^(52 - N.log2)
theorem mJ {N:Nat} (h0:N≠0) (h:N<9007199254740992):4503599627370496≤N*2^(52 - N.log2)∧N*2^(52 - N.log2)<9007199254740992:=by
 have hl:N.log2≤52:=by have:=(Nat.log2_lt h0).2 (show N<2^53 from h);omega
 have a:=Nat.log2_self_le h0
 have b:N<2^(N.log2+1):=Nat.lt_log2_self
 constructor
 ·have:=Nat.mul_le_mul_right (2^(52 - N.log2)) a
  rw [← Nat.pow_add,show N.log2+(52 - N.log2)=52 by omega] at this;exact this
 ·have:=Nat.mul_lt_mul_of_pos_right b (Nat.two_pow_pos (52 - N.log2))
  rw [← Nat.pow_add,show N.log2+1+(52 - N.log2)=53 by omega] at this;exact this
theorem oU {N:Nat} (h0:N≠0) (h:N<9007199254740992):nearR N (-(N.log2:Int))=oneB N:=by
 have hl:N.log2≤52:=by have:=(Nat.log2_lt h0).2 (show N<2^53 from h);omega
 obtain⟨p1,p2⟩:=mJ h0 h
 have e:=bn h0 (52 - N.log2) (-(N.log2:Int))
 rw [show -(N.log2:Int) - ((52 - N.log2:Nat):Int)= -52 by omega] at e
 rw [← e]
 unfold oneB
 generalize N*2^(52 - N.log2)=k at *
 have m1:mg (4602678819172646912+k)=k:=by unfold mg;rw [if_neg (by omega)];omega
 have m2:pl (4602678819172646912+k)=1022:=by unfold pl;omega
 have:=lu (r:=4602678819172646912+k) (by omega) (by omega)
 rw [m1,m2] at this
 exact this
theorem jy {N:Nat} (h0:N≠0) (h:N<9007199254740992):4607182418800017408≤oneB N∧oneB N<4611686018427387904:=by
 obtain⟨p1,p2⟩:=mJ h0 h
 unfold oneB;omega
theorem CB {r:Nat} (h:9007199254740992≤r):V r=2*V (r - 4503599627370496)∧mg (r - 4503599627370496)=mg r∧pl r=pl (r - 4503599627370496)+1:=by
 have e1:mg (r - 4503599627370496)=mg r:=by unfold mg;rw [if_neg (by omega),if_neg (by omega)];omega
 have e2:pl r=pl (r - 4503599627370496)+1:=by unfold pl;omega
 refine⟨?_,e1,e2⟩
 unfold V
 rw [e1,e2,Nat.pow_succ,← Nat.mul_assoc,Nat.mul_comm]
theorem vO {v K:Nat} (h:v≠0):v*2^K≠0:=Nat.mul_ne_zero h (Nat.pos_iff_ne_zero.1 (Nat.two_pow_pos K))
theorem oV (x:Nat):wrd (false^^false) x=x:=rfl
theorem CC {r:Nat} (h:9007199254740992≤r) (h2:r<9218868437227405312):floatBits .mul .f64 r 4602678819172646912=some (r - 4503599627370496):=by
 obtain⟨K,hK⟩:∃ K:Nat,K=1074:=⟨_,rfl⟩
 have hP:P2 (-1)=4602678819172646912:=by decide+kernel
 obtain⟨a1,a2,_⟩:=Bo (k:=-1) (by omega) (by omega)
 have a3:=Hn (k:=-1) (by omega) (by omega)
 rw [hP] at a1 a2 a3
 have hr:af r:=by unfold af;omega
 rw [gP hr a1,a2,a3]
 refine congrArg some ?_
 have hs:sB r=false:=by unfold sB;rw [show r / 9223372036854775808=0 by omega];rfl
 have ha:aV r=V r:=by unfold aV;rw [Nat.mod_eq_of_lt (by omega)]
 have hT:V r*2^((-1:Int)+1074).toNat=V (r - 4503599627370496)*2^K:=by
  rw [(CB h).1,show ((-1:Int)+1074).toNat=K - 1 by omega,show K=(K - 1)+1 by omega,Nat.pow_succ,Nat.add_sub_cancel,Nat.mul_comm 2,Nat.mul_assoc,Nat.mul_comm 2]
 rw [ha,hT,hs]
 unfold mulR
 have hv:V (r - 4503599627370496)≠0:=fun e=>by have:=jq e;omega
 rw [if_neg (vO hv)]
 have:=kW (r:=r - 4503599627370496) (by omega) K
 rw [show (-1074 - (K:Int))= -2148 by omega] at this
 rw [this];exact oV _
theorem CD {r:Nat} (h:9007199254740992≤r) (h2:r<9218868437227405312):floatBits .quo .f64 r 4611686018427387904=some (r - 4503599627370496):=by
 have hr:af r:=by unfold af;omega
 have hm:r % 9223372036854775808=r:=Nat.mod_eq_of_lt (by omega)
 have hX0:mg r≠0:=eD (by omega)
 have hXg:4503599627370496≤mg r:=wL (by omega)
 have hlg:52≤(mg r).log2:=(Nat.le_log2 hX0).2 hXg
 have hY:mg (4611686018427387904 % 9223372036854775808)=4503599627370496:=by decide
 have hpY:pl (4611686018427387904 % 9223372036854775808)=1023:=by decide
 have hYl:Nat.log2 4503599627370496=52:=by decide
 have e:=gQ (x:=r) (y:=4611686018427387904) hr (by unfold af;decide) (by omega) (by decide) (X:=mg r) (Y:=4503599627370496) (ex:=-1074+(pl r:Int)) (ey:=-51) (by rw [hm]) hY.symm (by rw [hm]) (by rw [hpY];rfl) (k:=54) (by rw [hYl];omega)
 rw [e]
 refine congrArg some ?_
 have hq:bf (mg r) 4503599627370496 54=mg r*2^3:=by
  unfold bf
  rw [show (2:Nat)^54=4*4503599627370496 from rfl,← Nat.mul_assoc,Nat.mul_div_cancel _ (by decide),Nat.mul_mod_left,if_pos rfl];omega
 have hs:sB r=false:=by unfold sB;rw [show r / 9223372036854775808=0 by omega];rfl
 have hs2:sB 4611686018427387904=false:=by decide
 rw [hq,hs,hs2]
 obtain⟨v1,v2,v3⟩:=CB h
 have e2:=bn hX0 3 (-1074+(pl r:Int) - 1)
 rw [show -1074+(pl r:Int) - 1 - ((3:Nat):Int)= -1074+(pl r:Int) - -51 - 1 - ((54:Nat):Int) by omega] at e2
 rw [e2,← v2,v3,show -1074+((pl (r - 4503599627370496)+1:Nat):Int) - 1= -1074+(pl (r - 4503599627370496):Int) by omega,lu (by omega) (by omega)]
 exact oV _

def lnM (N:Nat):Nat:=if 4609047870845172685<oneB N then oneB N - 4503599627370496 else oneB N
def lnK (N:Nat) (e:Int):Int:=if 4609047870845172685<oneB N then e+(N.log2:Int)+1 else e+(N.log2:Int)
theorem xy {N:Nat} (h0:N≠0) (h:N<9007199254740992):af (lnM N)∧lnM N<9218868437227405312:=by
 obtain⟨a,b⟩:=jy h0 h
 unfold lnM af
 split<;>omega
theorem EV {m:Nat} (h:m<9218868437227405312):(FloatKind.f64.format.order m 4609047870845172685==some .gt)=decide (4609047870845172685<m):=by
 have u1:U64 (m:Int):=by unfold U64;omega
 have u2:U64 ((4609047870845172685:Nat):Int):=by unfold U64;omega
 have r1:=fQ (b:=m) h
 have r2:=fQ (b:=4609047870845172685) (by decide)
 rw [gE u1 u2 r1.2.1 r2.2.1,r1.2.2,r2.2.2]
 exact decide_eq_decide.2 (by omega)

theorem vP (x N:Nat) (e:Int) (hx:U64 x) (hn:af x) (ho:OfR x false N e) (h0:N≠0) (w:World) :
  Calls Tryz.prog 204 #[.float .f64 x] w fun r w'=>r=.returned (.tuple #[.float .f64 (lnM N),.int .i64 (lnK N e)])∧∃ q,w'=w.drewN q:=by
 have hx64:x<18446744073709551616:=by have:=hx.2;omega
 obtain⟨s1,s2,_⟩:=sX ho hx64 hn h0
 have hlt:=ho.lt
 have hlo:=ho.lo
 have hhi:=ho.hi
 have hl:N.log2≤52:=by have:=(Nat.log2_lt h0).2 (show N<2^53 from hlt);omega
 have hS:Hid (∀ w,Calls Tryz.prog 67 #[.float .f64 x] w fun r w'=>r=.returned (.tuple #[.int .i64 (N:Int),.int .i64 e,.bool (aD (x:Int))])∧w'=w):=fun w=>by
  have:=dO x x w rfl hx
  rw [s1,s2] at this;exact this
 have hL:Hid (∀ w,Calls Tryz.prog 210 #[.int .u64 (N:Int)] w fun r w'=>r=.returned (.int .i64 ((N.log2:Int)+1))∧w'=w):=fun w=>by
  have:=Tryz.bits_Len (N:Int) w (by omega) (by omega)
  rw [Int.toNat_natCast,fY h0 (by omega)] at this
  exact this
 have hJ:Hid (∀ w,Calls Tryz.prog 116 #[.int .i64 (N:Int),.int .i64 (1 - ((N.log2:Int)+1))] w fun r w'=>r=.returned (.float .f64 (oneB N))∧∃ q,w'=w.drewN q):=fun w=>by
  have:=bM (N:Int) (1 - ((N.log2:Int)+1)) w (by omega) (by omega)
  have e:aG (N:Int) (1 - ((N.log2:Int)+1))=oneB N:=by
   unfold aG
   rw [if_neg (by omega),if_neg (by omega),Int.natAbs_natCast,show 1 - ((N.log2:Int)+1)= -(N.log2:Int) by omega,oU h0 hlt]
  rw [e] at this;exact this
 obtain⟨o1,o2⟩:=jy h0 hlt
 have:=zh x (oneB N) (oneB N - 4503599627370496) (N:Int) e ((N.log2:Int)+1) _ _ w hS (by omega) (by omega) hL (by omega) hJ (EV (by omega)) (CD (by omega) (by omega))
 refine this.mono ?_
 rintro r w' ⟨rfl,hq⟩
 refine⟨?_,hq⟩
 unfold lnM lnK
 by_cases c:4609047870845172685<oneB N
 ·rw [if_pos c,if_pos c,decide_eq_true c]
  simp only [if_true]
  rw [show e+((N.log2:Int)+1)=e+(N.log2:Int)+1 by omega]
 ·rw [if_neg c,if_neg c,decide_eq_false c]
  simp only [Bool.false_eq_true,if_false]
  rw [show e+((N.log2:Int)+1) - 1=e+(N.log2:Int) by omega]
end Go.Proofs.YtjjlnmihkadlmaaGreat
namespace Go.Proofs.YtjjlnmihkadlmaaGreat
open Go.RowKit

theorem vQ (op:BinOp) (o o':Option Nat):floatBits op .f64 (cn o) (cn o')=opO op o o':=(jV (Bu o) (Bu o')).symm

theorem mK {op:BinOp} (ho:op=.add∨op=.sub∨op=.mul∨op=.quo) (o o':Option Nat):cn (opO op o o')<18446744073709551616:=by rw [← vQ];exact xc ho _ _

theorem vR {o o':Option Nat} {u v z:Int} (hu:u=(cn o:Int)) (hv:v=(cn o':Int)) (h:U64 u) (h':U64 v) (hz:z=(cn (opO .mul o o'):Int)) (w:World) :
  Calls Tryz.prog 135 #[.int .u64 u,.int .u64 v] w fun e w'=>e=.returned (.int .u64 z)∧Below w.heap.size w w':=by
 have:=iA (cn o) (cn o') u v w hu hv h h'
 rw [vQ,← hz] at this;exact this

theorem CE {o o':Option Nat} {u v z:Int} (hu:u=(cn o:Int)) (hv:v=(cn o':Int)) (h:U64 u) (h':U64 v) (hz:z=(cn (opO .add o o'):Int)) (w:World) :
  Calls Tryz.prog 172 #[.int .u64 u,.int .u64 v] w fun e w'=>e=.returned (.int .u64 z)∧Below w.heap.size w w':=by
 have:=fG (cn o) (cn o') u v w hu hv h h'
 rw [vQ,← hz] at this;exact this

end Go.Proofs.YtjjlnmihkadlmaaGreat
namespace Go.Proofs.YtjjlnmihkadlmaaGreat
open Go.RowKit

theorem xz:FitL lnL:=by unfold FitL;decide
theorem CF {cs:List Nat} {x:Nat} (hf:FitL cs):∀ k q,hornAt cs x k=some q→q<18446744073709551616
 | 0,q,h=>by
  have:cs.getD (cs.length - 1) 0=q:=Option.some.inj h
  rw [← this];exact hf.get _
 | k+1,q,h=>by
  have h2:el x (hornAt cs x k) (cs.getD (cs.length - 2 - k) 0)=some q:=h
  rw [← lS] at h2
  exact jm (by simp) h2
theorem vS {cs:List Nat} {x:Nat} (hf:FitL cs):cn (aS cs x)<18446744073709551616:=by
 cases h:aS cs x with
 | none=>decide
 | some q=>
  unfold aS at h
  split at h
  ·have:0=q:=Option.some.inj h
   show q<_
   omega
  ·exact CF hf _ q h

theorem Gq (k:Nat) (hk:k<11):∃ fz xi:Int,Hid (∀ w,Calls Tryz.prog 170 #[.int .i64 (2*(k:Int)+1)] w fun e w'=>e=.returned (.int .u64 fz)∧Below w.heap.size w w')∧
  Hid (∀ w,Calls Tryz.prog 64 #[.int .u64 4607182418800017408,.int .u64 fz] w fun e w'=>e=.returned (.int .u64 xi)∧Below w.heap.size w w')∧Hid (Value.int IntKind.u64 xi=uV (lnL.getD k 0)):=by
 refine⟨(fi (2*(k:Int)+1):Int),(lnL.getD k 0:Int),fun w=>iD _ w (by omega) (by omega),fun w=>?_,rfl⟩
 have:=iE 4607182418800017408 (fi (2*(k:Int)+1)) 4607182418800017408 _ w rfl rfl (by unfold U64;omega) (an (rW (a:=2*(k:Int)+1) rfl (by omega) (by omega)).2.2.2)
 have e:=Ck k hk
 rw [show ((2*k+1:Nat):Int)=2*(k:Int)+1 by omega] at e
 rw [e,ar] at this;exact this

set_option maxRecDepth 20000 in
set_option maxHeartbeats 3200000 in
theorem zl (x N a b hi lo:Nat) (u e res:Int) (w:World) (hu:u=(x:Int)) (h:U64 u) (hn:ag u=false) (hsg:sgB u=false) (hz:(szI u==0)=false) (hinf:aN u=false) (hxn:af x) (ho:OfR x false N e) (h0:N≠0)
  (q1:floatBits .sub .f64 (lnM N) 4607182418800017408=some a) (q2:floatBits .add .f64 (lnM N) 4607182418800017408=some b) (q8:floatBits .mul .f64 (fi (lnK N e)) 4604418534311723008=some hi) (q9:floatBits .mul .f64 (fi (lnK N e)) 4461442080421002358=some lo) (hres:(cn (lnO a b hi lo):Int)=res) :
  Calls Tryz.prog 142 #[.int .u64 u] w fun e w'=>e=.returned (.int .u64 res)∧Below w.heap.size w w':=by
 have hlt:=ho.lt
 have hlo:=ho.lo
 have hhi:=ho.hi
 have hlg:N.log2≤52:=by have:=(Nat.log2_lt h0).2 (show N<2^53 from hlt);omega
 obtain⟨o1,o2⟩:=jy h0 hlt
 obtain⟨i0,hi0,hz0,hz1,hz2⟩:=info_parts infoU
 have HN:=hideS (ah u · h)
 rw [hn] at HN
 have HNg:Hid (∀ w,Calls Tryz.prog 87 #[.int .u64 u] w fun e w'=>e=.returned (.bool false)∧w'=w):=fun w=>by
  have:=bJ u w
  rw [hsg] at this;exact this
 have HSz:=hideS (ay u · h)
 have HI:=hideS (aq u · h)
 rw [hinf] at HI
 have HOf:Hid (∀ w,Calls Tryz.prog 89 #[.int .u64 u] w fun r w'=>∃ v,r=.returned (.agg #[.bool false,v,.int .i64 e])∧DN w' v N∧Below w.heap.size w w'):=fun w=>by
  refine (eC x u w hu h hxn).mono ?_
  rintro r w' ⟨neg,v,N',e',rfl,hd,ho',hb⟩
  have hN':N'≠0:=by
   intro c
   have v1:=ho'.val
   have v2:=ho.val
   rw [c,Nat.zero_mul] at v1
   rw [← v1] at v2
   rcases Nat.mul_eq_zero.1 v2 with c | c
   ·exact h0 c
   ·have:=Nat.two_pow_pos (e+1074).toNat;omega
  obtain⟨m1,m2⟩:=ho'.mag hN'
  obtain⟨n1,n2⟩:=ho.mag h0
  have e1:N'=N:=by rw [m1,n1]
  have e2:e'=e:=by rw [m2,n2]
  have e3:neg=false:=by rw [ho'.sgn hN',← ho.sgn h0]
  subst e1 e2 e3
  exact⟨v,rfl,hd,hb⟩
 obtain⟨Bl,hBl⟩:∃ Bl:Int,(bl N:Int)=Bl:=⟨_,rfl⟩
 have hBl2:Bl=(N.log2:Int)+1:=by rw [← hBl,gc h0];rfl
 obtain⟨k0,hk0⟩:∃ k0:Int,Bl - 1+e=k0:=⟨_,rfl⟩
 have f1:IntKind.i64.wrap (Bl - 1)=Bl - 1:=by rw [IntKind.wrap_i64];omega
 have f2:IntKind.i64.wrap (Bl - 1+e)=k0:=by rw [IntKind.wrap_i64];omega
 have hk1: -1100≤k0:=by omega
 have hk2:k0≤1100:=by omega
 obtain⟨m0,hm0⟩:∃ m0:Int,m0=(oneB N:Int):=⟨_,rfl⟩
 have HNr:Hid (∀ v w,DN w v N→Calls Tryz.prog 164 #[.agg #[.bool false,v,.int .i64 (e - k0)]] w fun r w'=>r=.returned (.int .u64 m0)∧Below w.heap.size w w'):=fun v w hd=>by
  have:=gj false v (e - k0) N w hd (by have:=dy hlt;omega) (by omega) (by omega)
  rw [eN false _ h0,if_neg (by decide),Int.zero_add,show e - k0= -(N.log2:Int) by omega,oU h0 hlt,← hm0,← show e - k0= -(N.log2:Int) by omega] at this
  exact this
 have um0:U64 m0:=by rw [hm0];exact an (by omega)
 obtain⟨g,hg⟩:∃ g,decide (4609047870845172685<oneB N)=g:=⟨_,rfl⟩
 have HLt:Hid (∀ w,Calls Tryz.prog 97 #[.int .u64 4609047870845172685,.int .u64 m0] w fun r w'=>r=.returned (.bool g)∧w=w'):=fun w=>by
  have r1:=fQ (b:=oneB N) (by omega)
  have r2:=fQ (b:=4609047870845172685) (by decide)
  refine eQ 4609047870845172685 m0 g w (by unfold U64;omega) um0 (by decide) (by rw [hm0];exact r1.2.1) ?_
  rw [hm0,r1.2.2,show ae (4609047870845172685:Int)=4609047870845172685 from r2.2.2,← hg]
  exact decide_eq_decide.2 (by omega)
 obtain⟨mi,hmi⟩:∃ mi:Int,mi=(lnM N:Int):=⟨_,rfl⟩
 have umi:U64 mi:=by rw [hmi];exact an (by have:=(xy h0 hlt).2;omega)
 have HHf:Hid (g=true→∀ w,Calls Tryz.prog 135 #[.int .u64 m0,.int .u64 4602678819172646912] w fun r w'=>r=.returned (.int .u64 mi)∧Below w.heap.size w w'):=fun c w=>by
  have hc:4609047870845172685<oneB N:=by rw [c] at hg;exact of_decide_eq_true hg
  exact ke (z:=mi) hm0 (v:=4602678819172646912) rfl um0 (by unfold U64;omega) (CC (by omega) (by omega)) (by rw [hmi];unfold lnM;rw [if_pos hc]) w
 have hmg:g=false→m0=mi:=fun c=>by
  have hc:¬ 4609047870845172685<oneB N:=by rw [c] at hg;exact of_decide_eq_false hg
  rw [hm0,hmi];unfold lnM;rw [if_neg hc]
 have hkk:(if g then k0+1 else k0)=lnK N e:=by
  unfold lnK
  rw [← hg]
  by_cases c:4609047870845172685<oneB N
  ·rw [if_pos c,decide_eq_true c,if_pos rfl];omega
  ·rw [if_neg c,decide_eq_false c,if_neg (by decide)];omega
 obtain⟨ai,hai⟩:∃ ai:Int,ai=(a:Int):=⟨_,rfl⟩
 obtain⟨bi,hbi⟩:∃ bi:Int,bi=(b:Int):=⟨_,rfl⟩
 obtain⟨hii,hhi⟩:∃ hii:Int,hii=(hi:Int):=⟨_,rfl⟩
 obtain⟨loi,hloi⟩:∃ loi:Int,loi=(lo:Int):=⟨_,rfl⟩
 obtain⟨fz,hfz⟩:∃ fz:Int,fz=(fi (lnK N e):Int):=⟨_,rfl⟩
 have ufz:U64 fz:=by rw [hfz];exact an (rW (a:=lnK N e) rfl (by rw [← hkk];split<;>omega) (by rw [← hkk];split<;>omega)).2.2.2
 obtain⟨so,hso⟩:∃ so,floatBits .quo .f64 a b=so:=⟨_,rfl⟩
 obtain⟨si,hsi⟩:∃ si:Int,si=(cn so:Int):=⟨_,rfl⟩
 have usi:U64 si:=by rw [hsi,← hso];exact an (xc (by simp) _ _)
 obtain⟨zi,hzi⟩:∃ zi:Int,zi=(cn (opO .mul so so):Int):=⟨_,rfl⟩
 have uzi:U64 zi:=by rw [hzi];exact an (mK (by simp) _ _)
 obtain⟨ti,hti⟩:∃ ti:Int,ti=(cn (opO .mul (some 4611686018427387904) so):Int):=⟨_,rfl⟩
 have uti:U64 ti:=by rw [hti];exact an (mK (by simp) _ _)
 obtain⟨vi,hvi⟩:∃ vi:Int,vi=(cn ((opO .mul so so).bind fun z=>aS lnL z):Int):=⟨_,rfl⟩
 have hvi2:vi=(cn (aS lnL (cn (opO .mul so so))):Int):=by rw [hvi,xx (Bu _) (by rw [lnL_len];decide)]
 have uvi:U64 vi:=by rw [hvi2];exact an (vS xz)
 obtain⟨pi,hpi⟩:∃ pi:Int,pi=(cn (opO .mul (opO .mul (some 4611686018427387904) so) ((opO .mul so so).bind fun z=>aS lnL z)):Int):=⟨_,rfl⟩
 have upi:U64 pi:=by rw [hpi];exact an (mK (by simp) _ _)
 obtain⟨ci,hci⟩:∃ ci:Int,ci=(cn (opO .add (opO .mul (opO .mul (some 4611686018427387904) so) ((opO .mul so so).bind fun z=>aS lnL z)) (some lo)):Int):=⟨_,rfl⟩
 have uci:U64 ci:=by rw [hci];exact an (mK (by simp) _ _)
 have hres2:res=(cn (opO .add (some hi) (opO .add (opO .mul (opO .mul (some 4611686018427387904) so) ((opO .mul so so).bind fun z=>aS lnL z)) (some lo))):Int):=by rw [← hres,← hso];rfl
 have HS:=hideS fun w=>vM (z:=ai) hmi (v:=4607182418800017408) rfl umi (by unfold U64;omega) q1 hai w
 have HA:=hideS fun w=>Cy (z:=bi) hmi (v:=4607182418800017408) rfl umi (by unfold U64;omega) q2 hbi w
 have uai:U64 ai:=eF (by simp) q1 hai
 have ubi:U64 bi:=eF (by simp) q2 hbi
 have HD:Hid (∀ w,Calls Tryz.prog 64 #[.int .u64 ai,.int .u64 bi] w fun r w'=>r=.returned (.int .u64 si)∧Below w.heap.size w w'):=fun w=>by
  have:=iE a b ai bi w hai hbi uai ubi
  rw [hso,← hsi] at this;exact this
 have HZ:=hideS fun w=>vR hsi hsi usi usi hzi w
 have HT:=hideS fun w=>vR (o:=some 4611686018427387904) (u:=4611686018427387904) rfl hsi (by unfold U64;omega) usi hti w
 have HH:Hid (∀ B v w,OwnF w B 57 uV v lnL→Calls Tryz.prog 175 #[v,.int .u64 zi] w fun e w'=>e=.returned (.int .u64 vi)∧Below w.heap.size w w'):=fun B v w hO=>by
  have:=ik B 11 (cn (opO .mul so so)) v zi lnL w hO xz hzi uzi lnL_len (by decide)
  rw [← hvi2] at this;exact this
 have HP:=hideS fun w=>vR hti hvi uti uvi hpi w
 have HIn:Hid (∀ w,Calls Tryz.prog 170 #[.int .i64 (if g then k0+1 else k0)] w fun e w'=>e=.returned (.int .u64 fz)∧Below w.heap.size w w'):=fun w=>by
  rw [hkk]
  exact dd (lnK N e) fz w (by rw [← hkk];split<;>omega) (by rw [← hkk];split<;>omega) hfz.symm
 have HM1:=hideS fun w=>ke (z:=hii) hfz (v:=4604418534311723008) rfl ufz (by unfold U64;omega) q8 hhi w
 have HM2:=hideS fun w=>ke (z:=loi) hfz (v:=4461442080421002358) rfl ufz (by unfold U64;omega) q9 hloi w
 have HC:=hideS fun w=>CE (o':=some lo) hpi (v:=loi) hloi upi (eF (by simp) q9 hloi) hci w
 have HR:=hideS fun w=>CE (o:=some hi) (u:=hii) hhi hci (eF (by simp) q8 hhi) uci hres2 w
 have HBl:=hideS hBl
 have HNl:=hideS hlt
 clear h hn hsg hinf hu hxn ho h0 q1 q2 q8 q9 hres hlg hlt o1 o2 hBl hBl2 hm0 um0 hmi umi hkk hai hbi hhi hloi hfz ufz hso hsi usi hzi uzi hti uti hvi hvi2 uvi hpi upi hci uci hres2 uai ubi hg hk0
 go_enter Tryz.func142,Tryz.ntmps142
 go_wp2_with fail
 refine (turned (HN.out _)).mono ?_
 rintro e w' ⟨rfl,rfl⟩
 go_wp2_with fail
 refine (turned (HNg.out _)).mono ?_
 rintro e w' ⟨rfl,rfl⟩
 go_wp2_with fail
 refine (turned (HSz.out _)).mono ?_
 rintro e w' ⟨rfl,rfl⟩
 go_wp2_with fail
 refine (turned (HI.out _)).mono ?_
 rintro e w' ⟨rfl,rfl⟩
 go_wp2_with fail
 refine (HOf.out _).mono ?_
 rintro r w1 ⟨v1,rfl,hd1,hb1⟩
 obtain⟨p,l,c,rfl⟩:=hd1.shape
 have HBx:=hideS (aH w1 false (.slice p l c) e)
 have HDb:=hideS (hd1.below HBx.out)
 have B1:=hideS (hb1.trans (HBx.out.mono hb1.size))
 have HBs:=hideS hb1.size
 have HD1:=hideS hd1
 have HQ:Hid (∀ n,DN ((boxN w1 false (.slice p l c) e).drewN n) (.slice p l c) N):=fun n=>HDb.out.drewN n
 clear hb1 hd1 HOf HN HNg HSz HI
 go_wp2_with fail
 go_quiet ((go_at_call 145;exact Calls.quiet_of_same (jO (.slice p l c) N Bl _ (HQ.out _) (by have:=dy HNl.out;omega) HBl)))
 go_wp2_with fail
 obtain⟨w2,hw2⟩:∃ w2,w2=((boxN w1 false (.slice p l c) e).drewN nq).setCell ⟨w1.heap.size,2,none⟩ (Value.int IntKind.i64 (e - k0)):=⟨_,rfl⟩
 rw [← hw2]
 have B12:Hid (Below w1.heap.size w1 w2):=by rw [hw2];exact (below_drewN HBx.out _).setCell (Nat.le_refl _) _
 have B2:Hid (Below w.heap.size w w2):=by rw [hw2];exact (below_drewN B1.out _).setCell (show w.heap.size≤w1.heap.size from HBs.out) _
 have HNw:=hideS (HNr.out _ w2 (HD1.out.below B12.out))
 clear hw2 B12 B1 HD1 HQ HDb HBx HNr HBl HNl f1 f2
 refine HNw.out.mono ?_
 rintro r w3 ⟨rfl,hb⟩
 have B3:=hideS (B2.out.trans (hb.mono B2.out.size))
 clear hb B2 HNw
 go_wp2_with fail
 refine (HLt.out _).mono ?_
 rintro r w' ⟨rfl,rfl⟩
 clear HLt
 cases g
 case' true=>
  simp only [if_true] at HIn
  have HHg:=hideS (HHf.out rfl)
  clear HHf
  have HHf:True:=trivial
  go_wp2_with fail
  refine (HHg.out _).mono ?_
  rintro r w4 ⟨rfl,hb⟩
  have B3:=hideS (B3.out.trans (hb.mono B3.out.size))
  clear hb HHg
 case' false=>
  obtain rfl:=hmg rfl
  simp only [Bool.false_eq_true,if_false] at HIn
 all_goals
  clear HHf hmg
  go_wp2_with fail
  refine (HS.out _).mono ?_
  rintro r w5 ⟨rfl,hb⟩
  have B5:=hideS (B3.out.trans (hb.mono B3.out.size))
  clear hb
  go_wp2_with fail
  refine (HA.out _).mono ?_
  rintro r w6 ⟨rfl,hb⟩
  have B6:=hideS (B5.out.trans (hb.mono B5.out.size))
  clear hb
  go_wp2_with fail
  refine (HD.out _).mono ?_
  rintro r w7 ⟨rfl,hb⟩
  have B7:=hideS (B6.out.trans (hb.mono B6.out.size))
  clear hb
  go_wp2_with fail
  refine (HZ.out _).mono ?_
  rintro r w8 ⟨rfl,hb⟩
  have B8:=hideS (B7.out.trans (hb.mono B7.out.size))
  clear hb HS HA HD HZ B3 B5 B6 B7
  go_wp2_with fail
  go_loopw [8,9] (fun v i wr=>∃ k:Nat,k≤11∧i=.int .i64 k∧Hid (wr.ownsRow w8.heap.size 57 1 v k (rowOf uV lnL k))∧Hid (Below w.heap.size w wr)∧Hid (w8.heap.size≤wr.heap.size)) (fun _ i _=>11 - (intOf i).toNat)
  case atStart=>exact⟨0,Nat.zero_le _,rfl,World.ownsRow_nil _ _ _ _,B8,Nat.le_refl _⟩
  case round=>
   obtain⟨k,hk,rfl,hown,HB,HZ8⟩:=hrel
   by_cases hlt:k<11
   ·have HTk:=hideS (take_next (f:=uV) (show k<lnL.length by rw [lnL_len];exact hlt))
    obtain⟨tz,xi,T1,T2,T3⟩:=Gq k hlt
    have hsz:=HB.out.size
    have hsz8:=HZ8.out
    have hB8:=B8.out.size
    go_wp2_with fail
    refine (T1.out _).mono ?_
    rintro r w9 ⟨rfl,hb1⟩
    have HB1:=hideS hb1
    clear hb1
    go_wp2_with fail
    refine (T2.out _).mono ?_
    rintro r w10 ⟨rfl,hb2⟩
    have HB2:=hideS (HB1.out.trans (hb2.mono HB1.out.size))
    have HO2:=hideS (own_below hown.out HB2.out)
    have HBw:=hideS (HB.out.trans (HB2.out.mono hsz))
    have hsz2:=HBw.out.size
    have hsz9:w8.heap.size≤w10.heap.size:=Nat.le_trans hsz8 HB2.out.size
    clear hb2 HB1 hown
    go_wp2_with (at_builtin;refine wpList_append_own _ rfl _ _ 30 rfl w8.heap.size 57 i0 (.int .u64 0) 1 8 Tryz.underlying30 hi0 hz0 hz1 hz2 rfl (by decide) _ _ _ rfl (HO2.out.alloc _) ⟨w10.heap.size,0,none⟩ 1 1 [.int .u64 xi] rfl rfl ?c1 ?c2 ?c3 ?c4 ?c5 ?_)
    case c1=>
     intro j u hj
     match j,hj with
     | 0,hj=>simp at hj;subst hj;simp [Addr.add]
    case c2=>intro u hu;simp at hu;subst hu;rfl
    case c3=>unfold maxLen;omega
    case c4=>omega
    case c5=>simp;omega
    ·intro v' w11 hown' hgrow _
     have hlow:=HO2.out.lt
     have hb3:Below w.heap.size w w11:=(HBw.out.alloc hsz2 _).grown hgrow (by simp;omega) (fun j hj=>Nat.le_trans hB8 (hlow j hj).1)
     have hb4:Below w8.heap.size w10 w11:=((Below.refl w8.heap.size w10).alloc hsz9 _).grown hgrow (by simp;omega) (fun j hj=>(hlow j hj).1)
     rw [T3.out,← HTk.out] at hown'
     have HO:=hideS hown'
     have HB3:=hideS hb3
     have HZ3:=hideS (Nat.le_trans hsz9 hb4.size)
     clear hown' hgrow hlow hb3 hb4
     go_wp2
     go_roundw
     case rel=>exact⟨k+1,by omega,by simp,HO,HB3,HZ3⟩
     case measure=>simp [intOf];omega
   ·obtain rfl:k=11:=by omega
    have h1:=hown.out
    rw [show (11:Nat)=lnL.length from lnL_len.symm,rowOf_all] at h1
    have HO:=hideS (OwnF.mk h1:OwnF wr w8.heap.size 57 uV _ lnL)
    clear h1 hown
    go_wp2_with fail
    refine (HT.out _).mono ?_
    rintro r w12 ⟨rfl,hb⟩
    have C1:=hideS (HB.out.trans (hb.mono HB.out.size))
    have HHw:=hideS (HH.out _ _ w12 (HO.out.below hb))
    clear hb HO
    go_wp2_with fail
    refine HHw.out.mono ?_
    rintro r w13 ⟨rfl,hb⟩
    have C2:=hideS (C1.out.trans (hb.mono C1.out.size))
    clear hb HHw
    go_wp2_with fail
    refine (HP.out _).mono ?_
    rintro r w14 ⟨rfl,hb⟩
    have C3:=hideS (C2.out.trans (hb.mono C2.out.size))
    clear hb
    go_wp2_with fail
    refine (HIn.out _).mono ?_
    rintro r w15 ⟨rfl,hb⟩
    have C4:=hideS (C3.out.trans (hb.mono C3.out.size))
    clear hb
    go_wp2_with fail
    refine (HM1.out _).mono ?_
    rintro r w16 ⟨rfl,hb⟩
    have C5:=hideS (C4.out.trans (hb.mono C4.out.size))
    clear hb
    go_wp2_with fail
    refine (HM2.out _).mono ?_
    rintro r w17 ⟨rfl,hb⟩
    have C6:=hideS (C5.out.trans (hb.mono C5.out.size))
    clear hb
    go_wp2_with fail
    refine (HC.out _).mono ?_
    rintro r w18 ⟨rfl,hb⟩
    have C7:=hideS (C6.out.trans (hb.mono C6.out.size))
    clear hb
    go_wp2_with fail
    refine (HR.out _).mono ?_
    rintro r w19 ⟨rfl,hb⟩
    have C8:=hideS (C7.out.trans (hb.mono C7.out.size))
    clear hb
    go_wp2_with fail
    go_ret
    exact⟨rfl,C8.out⟩
end Go.Proofs.YtjjlnmihkadlmaaGreat
namespace Go.Proofs.YtjjlnmihkadlmaaGreat

theorem CG {r:Nat} (h:af r) (h2:r<18446744073709551616): -9218868437227405312<ae r∧ae r<9218868437227405312:=by
 rw [← bK h2 (gT h)]
 unfold af at h
 unfold sgn
 generalize (r / 9223372036854775808 % 2==1)=p at *
 cases p<;>simp only [Bool.false_eq_true,if_true,if_false]<;>omega
theorem CH {b:Nat} (h:0<vI b):sB b=false∧vI b=(aV b:Int)∧b % 9223372036854775808≠0:=by
 have hz:b % 9223372036854775808≠0:=by
  intro e
  rw [oI] at h
  have:aV b=0:=by unfold aV;rw [e];exact bu
  rw [this] at h
  unfold sgZ at h
  split at h<;>omega
 rw [oI] at h ⊢
 unfold sgZ at h ⊢
 cases e:sB b
 ·exact⟨rfl,by simp only [Bool.false_eq_true,if_false],hz⟩
 ·rw [e] at h;simp only [if_true] at h;omega
theorem gr {op:BinOp} {x y f:Nat} {k:Int} (h:∃ r,floatBits op .f64 x y=some r∧RkW r k) (hf:floatBits op .f64 x y=some f):RkW f k:=by
 obtain⟨r,e,hr⟩:=h
 obtain rfl:=Option.some.inj (e.symm.trans hf)
 exact hr
end Go.Proofs.YtjjlnmihkadlmaaGreat
namespace Go.Proofs.YtjjlnmihkadlmaaGreat
open Go.RowKit

structure Bd (x c:Nat):Prop where
 num:af x
 lt:x<18446744073709551616
 lo: -(vI c)≤vI x
 hi:vI x≤vI c
theorem CI {c:Nat} (hc:af c) (h:c<18446744073709551616):af (flipN c)∧flipN c<18446744073709551616∧ae (flipN c:Int)= -ae (c:Int)∧vI (flipN c)= -(vI c):=by
 obtain⟨h1,h2,h3⟩:=fH h
 have hn:af (flipN c):=by unfold af at hc ⊢;rw [h2];exact hc
 refine⟨hn,h1,?_,?_⟩
 ·rw [← bK h1 (gT hn),← bK h (gT hc),h2,h3]
  unfold sgn
  cases (c / 9223372036854775808 % 2==1)<;>simp
 ·unfold vI
  rw [h2,h3]
  cases (c / 9223372036854775808 % 2==1)<;>simp
theorem xA {r c:Nat} {k:Int} (hr:RkW r k) (hc:af c) (h:c<18446744073709551616) (h1: -ae (c:Int)≤k) (h2:k≤ae (c:Int)):Bd r c:=by
 obtain⟨f1,f2,f3,f4⟩:=CI hc h
 have hk:=CG hc h
 have hn:af r:=sM hr (by omega) (by omega)
 refine⟨hn,hr.2.1,?_,?_⟩
 ·rw [← f4]
  refine (bT f1 hn f2 hr.2.1).1 ?_
  rw [f3,hr.1];exact h1
 ·refine (bT hn hc hr.2.1 h).1 ?_
  rw [hr.1];exact h2
theorem qH {x y a b c:Nat} (hx:Bd x a) (hy:Bd y b) (ha:af a) (hb:af b) (hc:af c) (e:floatBits .add .f64 a b=some c):∃ r,floatBits .add .f64 x y=some r∧Bd r c:=by
 obtain⟨r,e1,k1⟩:=dW hx.num hy.num
 have k2:=gr (dW ha hb) e
 have:=hx.lo;have:=hx.hi;have:=hy.lo;have:=hy.hi
 refine⟨r,e1,xA k1 hc k2.2.1 ?_ ?_⟩
 ·rw [k2.1,← qs];exact dV _ (by omega)
 ·rw [k2.1];exact dV _ (by omega)
theorem Gr {x y a b c:Nat} (hx:Bd x a) (hy:Bd y b) (ha:af a) (hb:af b) (hc:af c) (e:floatBits .add .f64 a b=some c):∃ r,floatBits .sub .f64 x y=some r∧Bd r c:=by
 obtain⟨r,e1,k1⟩:=sL hx.num hy.num
 have k2:=gr (dW ha hb) e
 have:=hx.lo;have:=hx.hi;have:=hy.lo;have:=hy.hi
 refine⟨r,e1,xA k1 hc k2.2.1 ?_ ?_⟩
 ·rw [k2.1,← qs];exact dV _ (by omega)
 ·rw [k2.1];exact dV _ (by omega)
theorem kh {x y a b c:Nat} (hx:Bd x a) (hy:Bd y b) (ha:af a) (hb:af b) (hc:af c) (e:floatBits .mul .f64 a b=some c):∃ r,floatBits .mul .f64 x y=some r∧Bd r c:=by
 obtain⟨r,e1,k1⟩:=mq hx.num hy.num
 have k2:=gr (mq ha hb) e
 obtain⟨l,u⟩:=mG hx.lo hx.hi hy.lo hy.hi
 refine⟨r,e1,xA k1 hc k2.2.1 ?_ ?_⟩
 ·rw [k2.1,← qs];exact dV _ l
 ·rw [k2.1];exact dV _ u
theorem vI_abs (x:Nat):vI x=(aV x:Int)∨vI x= -(aV x:Int):=by
 rw [oI];unfold sgZ
 cases sB x
 ·exact Or.inl rfl
 ·exact Or.inr rfl
theorem Gs {x y a d c:Nat} (hx:Bd x a) (hy:af y) (hd:vI d≤vI y) (d0:0<vI d) (ha:af a) (hdn:af d) (hc:af c) (e:floatBits .quo .f64 a d=some c):∃ r,floatBits .quo .f64 x y=some r∧Bd r c:=by
 obtain⟨s1,e1,z1⟩:=CH (b:=y) (by omega)
 obtain⟨s2,e2,z2⟩:=CH d0
 obtain⟨r,e3,k3⟩:=jv hx.num hy z1
 have k4:=gr (jv ha hdn z2) e
 have a0:0≤vI a:=by have:=hx.lo;have:=hx.hi;omega
 have hax:aV x≤aV a:=by
  have h1:=hx.lo
  have h2:=hx.hi
  rcases vI_abs x with h | h<;>rcases vI_abs a with h' | h'<;>omega
 have hq:qR (aV x) (aV y)≤qR (aV a) (aV d):=Nat.le_trans (Hy hax) (EK (by omega) (by omega))
 have hrc:ae (c:Int)=(qR (aV a) (aV d):Int):=by
  rw [k4.1,s2]
  by_cases hz:aV a=0
  ·have:qR (aV a) (aV d)=0:=by unfold qR;rw [if_pos hz]
   rw [this];unfold sgZ;split<;>simp
  ·have:sB a=false:=by
    have h1:=oI a
    cases hs:sB a with
    | false=>rfl
    | true=>rw [hs] at h1;unfold sgZ at h1;simp at h1;omega
   rw [this];rfl
 refine⟨r,e3,xA k3 hc k4.2.1 ?_ ?_⟩
 ·rw [hrc];unfold sgZ;split<;>omega
 ·rw [hrc];unfold sgZ;split<;>omega
theorem fR {x c:Nat} (h:x≤c) (hc:c<9218868437227405312):Bd x c:=by
 have hx:af x:=by unfold af;omega
 have hn:af c:=by unfold af;omega
 have r1:=(iI (r:=x) (by omega)).1
 have r2:=(iI (r:=c) (by omega)).1
 have r0:ae ((0:Nat):Int)=0:=by decide
 have v0:vI 0=0:=by decide+kernel
 have n0:af 0:=by unfold af;decide
 have h1:=(bT hx hn (by omega) (by omega)).1 (by rw [r1,r2];omega)
 have h2:=(bT n0 hx (by omega) (by omega)).1 (by rw [r0,r1];omega)
 have h3:=(bT n0 hn (by omega) (by omega)).1 (by rw [r0,r2];omega)
 rw [v0] at h2 h3
 exact⟨hx,by omega,by omega,h1⟩
end Go.Proofs.YtjjlnmihkadlmaaGreat
namespace Go.Proofs.YtjjlnmihkadlmaaGreat
open Go.RowKit

theorem EW {cs:List Nat} {x z:Nat} {B M:Nat→Nat} {n:Nat} (hx:Bd x z) (hz:af z) (h0:Bd (cs.getD (cs.length - 1) 0) (B 0)) (hB:∀ i,i≤n→af (B i)) (hM:∀ i,i<n→af (M i)) (hc:∀ i,i<n→Bd (cs.getD (cs.length - 2 - i) 0) 4607182418800017408)
  (e1:∀ i,i<n→floatBits .mul .f64 (B i) z=some (M i)) (e2:∀ i,i<n→floatBits .add .f64 (M i) 4607182418800017408=some (B (i+1))):∀ i,i≤n→∃ r,hornAt cs x i=some r∧Bd r (B i):=by
 intro i
 induction i with
 | zero=>exact fun _=>⟨_,rfl,h0⟩
 | succ i ih=>
  intro hi
  obtain⟨r,hr,hb⟩:=ih (by omega)
  obtain⟨m,hm,hbm⟩:=kh hb hx (hB i (by omega)) hz (hM i (by omega)) (e1 i (by omega))
  obtain⟨s,hs,hbs⟩:=qH hbm (hc i (by omega)) (hM i (by omega)) (by unfold af;decide) (hB (i+1) hi) (e2 i (by omega))
  refine⟨s,?_,hbs⟩
  show el x (hornAt cs x i) _=some s
  rw [hr]
  show ((some r).bind fun p=>floatBits .mul .f64 p x).bind _=some s
  rw [show ((some r).bind fun p=>floatBits .mul .f64 p x)=floatBits .mul .f64 r x from rfl,hm]
  exact hs
def nineN:Nat→Nat
 | 0=>1
 | n+1=>9*nineN n+1
def tc (i:Nat):Nat:=fi (nineN i:Int)
def xB (i:Nat):Nat:=fi ((9*nineN i:Nat):Int)
theorem gw:∀ i,i<11→(tc i) % 9223372036854775808<9218868437227405312∧(xB i) % 9223372036854775808<9218868437227405312∧floatBits .mul .f64 (tc i) 4621256167635550208=some (xB i)∧floatBits .add .f64 (xB i) 4607182418800017408=some (tc (i+1)):=by decide+kernel
theorem xC:∀ i,i<11→lnL.getD i 0≤4607182418800017408:=by decide+kernel
theorem EX {z:Nat} (hz:Bd z 4621256167635550208):∃ h,aS lnL z=some h∧Bd h (tc 10):=by
 have hb:=EW (cs:=lnL) (x:=z) (z:=4621256167635550208) (B:=tc) (M:=xB) (n:=10) hz (by unfold af;decide) (fR (xC _ (by rw [lnL_len];decide)) (by decide)) (fun i hi=>(gw i (by omega)).1) (fun i hi=>(gw i (by omega)).2.1) (fun i hi=>fR (xC _ (by rw [lnL_len];omega)) (by decide)) (fun i hi=>(gw i (by omega)).2.2.1) (fun i hi=>(gw i (by omega)).2.2.2) 10 (Nat.le_refl _)
 obtain⟨r,hr,hb⟩:=hb
 refine⟨r,?_,hb⟩
 unfold aS
 rw [if_neg (by rw [lnL_len];decide),lnL_len];exact hr
theorem xD {N:Nat} (h0:N≠0) (h:N<9007199254740992):lnM N≤4611686018427387904:=by
 obtain⟨a,b⟩:=jy h0 h
 unfold lnM
 split<;>omega
theorem Id {k:Int} (h1: -2000≤k) (h2:k≤2000):Bd (fi k) (fi 2000):=by
 obtain⟨K,hK⟩:∃ K,K=1074:=⟨_,rfl⟩
 obtain⟨v1,n1,_,l1⟩:=lL (m:=k) hK (by omega) (by omega)
 obtain⟨v2,_,_,_⟩:=lL (m:=2000) hK (by decide) (by decide)
 have p:(0:Int)≤((2^K:Nat):Int):=Int.natCast_nonneg _
 refine⟨n1,l1,?_,?_⟩
 ·rw [v1,v2,← Int.neg_mul];exact Int.mul_le_mul_of_nonneg_right (by omega) p
 ·rw [v1,v2];exact Int.mul_le_mul_of_nonneg_right h2 p
theorem cw (x:Nat) (h:decide (x % 9223372036854775808<9218868437227405312)=true):af x:=by unfold af;exact of_decide_eq_true h
theorem zm {N a b hi lo:Nat} {k:Int} (h0:N≠0) (h:N<9007199254740992) (hk: -2000≤k∧k≤2000) (q1:floatBits .sub .f64 (lnM N) 4607182418800017408=some a) (q2:floatBits .add .f64 (lnM N) 4607182418800017408=some b) (q8:floatBits .mul .f64 (fi k) 4604418534311723008=some hi) (q9:floatBits .mul .f64 (fi k) 4461442080421002358=some lo):∃ y,lnO a b hi lo=some y∧af y:=by
 have hm:Bd (lnM N) 4611686018427387904:=fR (xD h0 h) (by decide)
 have ho:Bd 4607182418800017408 4607182418800017408:=fR (Nat.le_refl _) (by decide)
 have n1:af 4607182418800017408:=cw _ (by decide)
 have n2:af 4611686018427387904:=cw _ (by decide)
 have n3:af 4613937818241073152:=cw _ (by decide)
 obtain⟨a',ea,ba⟩:=Gr (c:=4613937818241073152) hm ho n2 n1 n3 (by decide+kernel)
 obtain rfl:=Option.some.inj (ea.symm.trans q1)
 obtain⟨b',eb,bb⟩:=qH (c:=4613937818241073152) hm ho n2 n1 n3 (by decide+kernel)
 obtain rfl:=Option.some.inj (eb.symm.trans q2)
 have v0:vI 0=0:=by decide+kernel
 have n0:af 0:=by unfold af;decide
 have m0:0≤vI (lnM N):=by
  have r1:=(iI (r:=lnM N) (by have:=xD h0 h;omega)).1
  have:=(bT n0 hm.num (by decide) hm.lt).1 (by rw [r1,show ae ((0:Nat):Int)=0 by decide];omega)
  rw [v0] at this;exact this
 have hone:floatBits .add .f64 0 4607182418800017408=some 4607182418800017408:=by decide+kernel
 have b1:vI 4607182418800017408≤vI b':=by
  obtain⟨r,e,kr⟩:=dW n0 n1
  rw [hone] at e
  obtain rfl:=Option.some.inj e
  have kb:=gr (dW hm.num n1) q2
  refine (bT n1 bb.num (by decide) bb.lt).1 ?_
  rw [kr.1,kb.1]
  exact dV _ (by rw [v0];omega)
 have one0:0<vI 4607182418800017408:=by
  have:=(kF n0 n1 (by decide) (by decide)).1 (by decide)
  rw [v0] at this;exact this
 obtain⟨s,es,bs⟩:=Gs (c:=4613937818241073152) ba bb.num b1 one0 n3 n1 n3 (by decide+kernel)
 obtain⟨s2,es2,bs2⟩:=kh (c:=4618441417868443648) (fR (x:=4611686018427387904) (Nat.le_refl _) (by decide)) bs n2 n3 (cw _ (by decide)) (by decide+kernel)
 obtain⟨z,ez,bz⟩:=kh (c:=4621256167635550208) bs bs n3 n3 (cw _ (by decide)) (by decide+kernel)
 obtain⟨hh,eh,bh⟩:=EX bz
 obtain⟨v,ev,bv⟩:=kh (c:=fi ((6*nineN 10:Nat):Int)) bs2 bh (cw _ (by decide)) (gw 10 (by decide)).1 (cw _ (by decide+kernel)) (by decide+kernel)
 have bk:=Id hk.1 hk.2
 have nk:af (fi 2000):=cw _ (by decide+kernel)
 obtain⟨hi',ehi,bhi⟩:=kh (c:=fi 2000) bk (fR (x:=4604418534311723008) (c:=4607182418800017408) (by decide) (by decide)) nk n1 nk (by decide+kernel)
 obtain rfl:=Option.some.inj (ehi.symm.trans q8)
 obtain⟨lo',elo,blo⟩:=kh (c:=fi 2000) bk (fR (x:=4461442080421002358) (c:=4607182418800017408) (by decide) (by decide)) nk n1 nk (by decide+kernel)
 obtain rfl:=Option.some.inj (elo.symm.trans q9)
 obtain⟨c,ec,bc⟩:=qH (c:=fi ((6*nineN 10+2000:Nat):Int)) bv blo (cw _ (by decide+kernel)) nk (cw _ (by decide+kernel)) (by decide+kernel)
 obtain⟨y,ey,by'⟩:=qH (c:=fi ((6*nineN 10+4000:Nat):Int)) bhi bc nk (cw _ (by decide+kernel)) (cw _ (by decide+kernel)) (by decide+kernel)
 refine⟨y,?_,by'.num⟩
 unfold lnO
 rw [es,show opO .mul (some 4611686018427387904) (some s)=_ from es2,show opO .mul (some s) (some s)=_ from ez,show ((some z).bind fun z=>aS lnL z)=_ from eh,show opO .mul (some s2) (some hh)=_ from ev,show opO .add (some v) (some lo')=_ from ec]
 exact ey
end Go.Proofs.YtjjlnmihkadlmaaGreat
namespace Go.Proofs.YtjjlnmihkadlmaaGreat
open Go.RowKit

set_option maxHeartbeats 800000 in
theorem oW (u:Int) (w:World) (h:U64 u) (hc:ag u=true∨(ag u=false∧sgB u=true∧(szI u==0)=false)) :
  Calls Tryz.prog 142 #[.int .u64 u] w fun e w'=>e=.returned (.int .u64 9221120237041090561)∧w'=w:=by
 rcases hc with h1 | ⟨h1,h2,h3⟩
 ·have HN:=hideS (ah u · h)
  rw [h1] at HN
  clear h h1
  go_enter Tryz.func142,Tryz.ntmps142
  go_wp2_with fail
  refine (HN.out _).mono ?_
  rintro e w' ⟨rfl,rfl⟩
  go_wp2_with fail
  go_ret
  exact⟨rfl,rfl⟩
 ·have HN:=hideS (ah u · h)
  have HNg:Hid (∀ w,Calls Tryz.prog 87 #[.int .u64 u] w fun e w'=>e=.returned (.bool true)∧w'=w):=fun w=>by
   have:=bJ u w
   rw [h2] at this;exact this
  have HSz:=hideS (ay u · h)
  have h4:(szI u !=0)=true:=by rw [bne,h3];rfl
  rw [h1] at HN
  clear h h1 h2
  go_enter Tryz.func142,Tryz.ntmps142
  go_wp2_with fail
  refine (HN.out _).mono ?_
  rintro e w' ⟨rfl,rfl⟩
  go_wp2_with fail
  refine (HNg.out _).mono ?_
  rintro e w' ⟨rfl,rfl⟩
  go_wp2_with fail
  refine (HSz.out _).mono ?_
  rintro e w' ⟨rfl,rfl⟩
  go_wp2_with fail
  go_ret
  exact⟨rfl,rfl⟩

set_option maxHeartbeats 800000 in
theorem vT (u:Int) (w:World) (h:U64 u) (h1:ag u=false) (h3:(szI u==0)=true) :
  Calls Tryz.prog 142 #[.int .u64 u] w fun e w'=>e=.returned (.int .u64 18442240474082181120)∧w'=w:=by
 have HN:=hideS (ah u · h)
 have HSz:=hideS (ay u · h)
 have HF:=hideS fun w=>lT 9218868437227405312 9218868437227405312 18442240474082181120 w rfl (by unfold U64;omega) rfl
 have h4:(szI u !=0)=false:=by rw [bne,h3];rfl
 rw [h1] at HN
 cases h2:sgB u
 all_goals
  have HNg:Hid (∀ w,Calls Tryz.prog 87 #[.int .u64 u] w fun e w'=>e=.returned (.bool (sgB u))∧w'=w):=fun w=>bJ u w
  rw [h2] at HNg
  clear h1 h2
  go_enter Tryz.func142,Tryz.ntmps142
  go_wp2_with fail
  refine (HN.out _).mono ?_
  rintro e w' ⟨rfl,rfl⟩
  go_wp2_with fail
  refine (HNg.out _).mono ?_
  rintro e w' ⟨rfl,rfl⟩
  go_wp2_with (first | (go_at_call 66;refine (HSz.out _).mono ?_;rintro e w' ⟨rfl,rfl⟩) | (go_at_call 163;refine (HF.out _).mono ?_;rintro e w' ⟨rfl,rfl⟩))
  go_ret
  exact⟨rfl,rfl⟩

set_option maxHeartbeats 800000 in
theorem zo (u:Int) (w:World) (h:U64 u) (h1:ag u=false) (h2:sgB u=false) (h3:(szI u==0)=false) (h4:aN u=true) :
  Calls Tryz.prog 142 #[.int .u64 u] w fun e w'=>e=.returned (.int .u64 u)∧w'=w:=by
 have HN:=hideS (ah u · h)
 have HSz:=hideS (ay u · h)
 have HI:=hideS (aq u · h)
 have HNg:Hid (∀ w,Calls Tryz.prog 87 #[.int .u64 u] w fun e w'=>e=.returned (.bool false)∧w'=w):=fun w=>by
  have:=bJ u w
  rw [h2] at this;exact this
 rw [h1] at HN
 rw [h4] at HI
 clear h h1 h2 h4
 go_enter Tryz.func142,Tryz.ntmps142
 go_wp2_with fail
 refine (HN.out _).mono ?_
 rintro e w' ⟨rfl,rfl⟩
 go_wp2_with fail
 refine (HNg.out _).mono ?_
 rintro e w' ⟨rfl,rfl⟩
 go_wp2_with (first | (go_at_call 66;refine (HSz.out _).mono ?_;rintro e w' ⟨rfl,rfl⟩) | (go_at_call 85;refine (HI.out _).mono ?_;rintro e w' ⟨rfl,rfl⟩))
 go_ret
 exact⟨rfl,rfl⟩

structure BothL (x:Nat) (u z:Int):Prop where
 prog:∀ w,Calls Tryz.prog 195 #[.float .f64 x] w fun e w'=>∃ y,e=.returned (.float .f64 y)∧(dA (y:Int) z=true∧U64 (y:Int))∧Below w.heap.size w w'
 doc:∀ w,Calls Tryz.prog 142 #[.int .u64 u] w fun e w'=>e=.returned (.int .u64 z)∧Below w.heap.size w w'
 uz:U64 z
theorem Ie {x:Nat} {u z:Int} {y:Nat} (hp:∀ w,Calls Tryz.prog 195 #[.float .f64 x] w fun e w'=>e=.returned (.float .f64 y)∧w'=w) (hd:∀ w,Calls Tryz.prog 142 #[.int .u64 u] w fun e w'=>e=.returned (.int .u64 z)∧w'=w) (hz:z=(y:Int)) (hy:U64 (y:Int)):BothL x u z:=
 ⟨fun w=>(hp w).mono fun _ _ ⟨a,b⟩=>⟨y,a,⟨by rw [hz];exact io _,hy⟩,by rw [b];exact Below.refl _ _⟩,fun w=>(hd w).mono fun _ _ ⟨a,b⟩=>⟨a,by rw [b];exact Below.refl _ _⟩,by rw [hz];exact hy⟩
structure BothO (x:Nat) (u:Int) (o:Option Nat):Prop where
 prog:∀ w,Calls Tryz.prog 195 #[.float .f64 x] w fun e w'=>∃ y,e=.returned (.float .f64 y)∧Ag o y∧Below w.heap.size w w'
 doc:∀ w,Calls Tryz.prog 142 #[.int .u64 u] w fun e w'=>e=.returned (.int .u64 (cn o))∧Below w.heap.size w w'
 lt:cn o<18446744073709551616
 nan:ag (x:Int)=true→o=none
 fin:af x→sB x=false→x % 9223372036854775808≠0→∃ y,o=some y∧af y
theorem te {x:Nat} {u z:Int} {y:Nat} (hp:∀ w,Calls Tryz.prog 195 #[.float .f64 x] w fun e w'=>e=.returned (.float .f64 y)∧w'=w) (hd:∀ w,Calls Tryz.prog 142 #[.int .u64 u] w fun e w'=>e=.returned (.int .u64 z)∧w'=w) (hz:z=(y:Int)) (hy:U64 (y:Int)) (hn:ag (x:Int)=false) (hc:¬ (af x∧x % 9223372036854775808≠0)):BothO x u (some y):=
 ⟨fun w=>(hp w).mono fun _ _ ⟨a,b⟩=>⟨y,a,rfl,by rw [b];exact Below.refl _ _⟩,fun w=>(hd w).mono fun _ _ ⟨a,b⟩=>⟨by rw [a,hz];rfl,by rw [b];exact Below.refl _ _⟩,by have:=hy.2;rw [ar];omega,fun a=>(by rw [hn] at a;cases a),fun a _ b=>absurd ⟨a,b⟩ hc⟩
theorem oX {x:Nat} {u:Int} {y:Nat} (hp:∀ w,Calls Tryz.prog 195 #[.float .f64 x] w fun e w'=>e=.returned (.float .f64 y)∧w'=w) (hd:∀ w,Calls Tryz.prog 142 #[.int .u64 u] w fun e w'=>e=.returned (.int .u64 9221120237041090561)∧w'=w) (hn:ag (y:Int)=true:=by first | assumption | decide) (hy:y<18446744073709551616:=by first | assumption | decide) (hc:af x→sB x=true):BothO x u none:=
 ⟨fun w=>(hp w).mono fun _ _ ⟨a,b⟩=>⟨y,a,⟨hn,hy⟩,by rw [b];exact Below.refl _ _⟩,fun w=>(hd w).mono fun _ _ ⟨a,b⟩=>⟨by rw [a];rfl,by rw [b];exact Below.refl _ _⟩,by rw [ji];omega,fun _=>rfl,fun a b _=>by rw [hc a] at b;cases b⟩

theorem CJ (x:Nat) (u:Int) (hu:u=(x:Int)) (h:U64 x):∃ o,BothO x u o:=by
 have hx64:x<18446744073709551616:=by have:=h.2;omega
 have h':U64 u:=by rw [hu];exact h
 have un:U64 ((9221120237041090561:Nat):Int):=by unfold U64;omega
 cases hn:ag (x:Int) with
 | true=>exact⟨none,oX (fun w=>Gm x w h hn) (fun w=>oW u w h' (Or.inl (by rw [hu];exact hn))) (hc:=fun a=>by rw [gT a] at hn;cases hn)⟩
 | false=>
  have hn':ag u=false:=by rw [hu];exact hn
  have cx:=bA hu
  have z0:U64 ((0:Nat):Int):=by unfold U64;omega
  have o1:=iU h z0 hn (by decide)
  have o2:=eg h z0 hn (by decide)
  have hr0:ae ((0:Nat):Int)=0:=by decide
  rw [hr0] at o1 o2
  have hrk:=bK hx64 hn
  have hsu:sgB u=sB x:=by rw [hu];exact ek hx64
  have hl:=dF hn
  by_cases hz:x % 9223372036854775808=0
  ·have hzu:(szI u==0)=true:=by rw [cx,hz];rfl
   have hrz:ae (x:Int)=0:=by rw [← hrk,hz];unfold sgn;split<;>rfl
   refine⟨some 18442240474082181120,te (fun w=>EU x w h hn ?_ ?_) (fun w=>vT u w h' hn' hzu) rfl (by unfold U64;omega) hn (fun a=>a.2 hz)⟩
   ·rw [o1,hrz];rfl
   ·rw [o2,hrz];rfl
  ·have hzu:(szI u==0)=false:=by rw [cx];simp;omega
   cases hs:sB x with
   | true=>
    have hneg:ae (x:Int)<0:=by
     rw [← hrk]
     have hs':(x / 9223372036854775808 % 2==1)=true:=hs
     rw [hs'];unfold sgn;simp;omega
    refine⟨none,oX (fun w=>Gn x w h hn ?_) (fun w=>oW u w h' (Or.inr ⟨hn',by rw [hsu];exact hs,hzu⟩)) (hc:=fun _=>hs)⟩
    rw [o1];exact decide_eq_true hneg
   | false=>
    have hs':(x / 9223372036854775808 % 2==1)=false:=hs
    have hpos:ae (x:Int)=((x % 9223372036854775808:Nat):Int):=by rw [← hrk,hs'];rfl
    have a1:(FloatKind.f64.format.order x 0==some .lt)=false:=by rw [o1,hpos,decide_eq_false_iff_not];omega
    have a2:(FloatKind.f64.format.order x 0==some .eq)=false:=by rw [o2,hpos,decide_eq_false_iff_not];omega
    have um:U64 ((9218868437227405311:Nat):Int):=by unfold U64;omega
    have o3:=gE h um hn (by decide)
    have hrm:ae ((9218868437227405311:Nat):Int)=9218868437227405311:=by decide
    rw [hrm,hpos] at o3
    by_cases hinf:x % 9223372036854775808=9218868437227405312
    ·refine⟨some x,?_⟩
     refine te (y:=x) (fun w=>Gp x w h hn a1 a2 ?_) (fun w=>zo u w h' hn' (by rw [hsu];exact hs) hzu (by unfold aN;rw [cx,hinf];rfl)) hu h hn (fun a=>by have:=a.1;unfold af at this;omega)
     rw [o3];exact decide_eq_true (by omega)
    ·have hxn:af x:=by unfold af;omega
     have a3:(FloatKind.f64.format.order x 9218868437227405311==some .gt)=false:=by rw [o3,decide_eq_false_iff_not];omega
     have hio:aN u=false:=by unfold aN;rw [cx];simp;omega
     have hN0:mg (x % 9223372036854775808)≠0:=eD hz
     have hpl:pl (x % 9223372036854775808)≤2045:=by unfold pl;omega
     obtain⟨N,hN⟩:∃ N,N=mg (x % 9223372036854775808):=⟨_,rfl⟩
     obtain⟨e,he⟩:∃ e:Int,e= -1074+(pl (x % 9223372036854775808):Int):=⟨_,rfl⟩
     have ho:OfR x false N e:=⟨by rw [hN];exact lh _,by omega,by omega,by rw [hN,he];unfold aV V;congr 2;omega,fun _=>hs.symm,fun _=>⟨hN,he⟩⟩
     rw [← hN] at hN0
     have hlt:=ho.lt
     have hlo:=ho.lo
     have hhi:=ho.hi
     have hlg:N.log2≤52:=by have:=(Nat.log2_lt hN0).2 (show N<2^53 from hlt);omega
     have hk: -2000≤lnK N e∧lnK N e≤2000:=by unfold lnK;split<;>omega
     have hm:=(xy hN0 hlt).1
     have n1:af 4607182418800017408:=by unfold af;decide
     have fk:=(rW (a:=lnK N e) rfl (by omega) (by omega)).2.2.1
     have q1:=pX hm n1
     have q2:=jg hm n1
     have q8:=gP fk (show af 4604418534311723008 by unfold af;decide)
     have q9:=gP fk (show af 4461442080421002358 by unfold af;decide)
     refine⟨_,⟨fun w=>(Ic x (lnM N) _ _ _ _ _ (lnK N e) w h hn a1 a2 a3 (fun w=>vP x N e h hxn ho hN0 w) q1 q2 rfl q8 q9).mono ?_,fun w=>zl x N _ _ _ _ u e _ w hu h' hn' (by rw [hsu];exact hs) hzu hio hxn ho hN0 q1 q2 q8 q9 rfl,mK (by simp) _ _,fun a=>(by rw [hn] at a;cases a),fun _ _ _=>zm hN0 hlt hk q1 q2 q8 q9⟩⟩
     rintro r w' ⟨y,rfl,hag,hb⟩
     exact⟨y,rfl,hag,hb⟩

end Go.Proofs.YtjjlnmihkadlmaaGreat
namespace Go.Proofs.YtjjlnmihkadlmaaGreat
open Go.RowKit

end Go.Proofs.YtjjlnmihkadlmaaGreat
namespace Go.Proofs.YtjjlnmihkadlmaaGreat
open Go.RowKit

theorem CK {a b:Int} (h:dA a b=true) (hb:ag b=true):ag a=true:=by
 unfold dA at h
 rw [Bool.or_eq_true] at h
 rcases h with h | h
 ·rw [of_decide_eq_true h];exact hb
 ·exact (Bool.and_eq_true_iff.1 h).1

structure ExpR (x:Nat) (o:Option Nat):Prop where
 prog:∀ w,Calls Tryz.prog 194 #[.float .f64 x] w fun e w'=>∃ y,e=.returned (.float .f64 y)∧(Ag o y∧y<18446744073709551616)∧Below w.heap.size w w'
 doc:Hj 141 (x:Int) (cn o)
 nan:ag (x:Int)=true→o=none
 num:ag (x:Int)=false→∃ y,o=some y∧y≤9218868437227405312
theorem CL (x:Nat):∃ o,x<18446744073709551616→ExpR x o:=by
 by_cases h:x<18446744073709551616
 ·obtain⟨y,z,hb,h1,h2⟩:=zk x (x:Int) rfl (an h)
  have hy:y<18446744073709551616:=by have:=hb.uy.2;omega
  cases hn:ag (x:Int) with
  | true=>
   have hz:=h1 hn
   have hny:ag (y:Int)=true:=CK hb.same (by rw [hz];decide)
   exact⟨none,fun _=>⟨fun w=>(hb.prog w).mono fun _ _ ⟨a,b⟩=>⟨y,a,⟨⟨hny,hy⟩,hy⟩,b⟩,fun w=>(hb.doc w).mono fun _ _ ⟨a,b⟩=>⟨by rw [a,hz];rfl,b⟩,fun _=>rfl,fun a=>by rw [hn] at a;cases a⟩⟩
  | false=>
   obtain⟨h3,h4⟩:=h2 hn
   exact⟨some y,fun _=>⟨fun w=>(hb.prog w).mono fun _ _ ⟨a,b⟩=>⟨y,a,⟨rfl,hy⟩,b⟩,fun w=>(hb.doc w).mono fun _ _ ⟨a,b⟩=>⟨by rw [a,h4];rfl,b⟩,fun a=>(by rw [hn] at a;cases a),fun _=>⟨y,rfl,h3⟩⟩⟩
 ·exact⟨none,fun a=>absurd a h⟩
noncomputable def If (x:Nat):Option Nat:=Classical.choose (CL x)
theorem fb {x:Nat} (h:x<18446744073709551616):ExpR x (If x):=Classical.choose_spec (CL x) h
structure LnR (x:Nat) (o:Option Nat):Prop where
 prog:∀ w,Calls Tryz.prog 195 #[.float .f64 x] w fun e w'=>∃ y,e=.returned (.float .f64 y)∧(Ag o y∧y<18446744073709551616)∧Below w.heap.size w w'
 doc:Hj 142 (x:Int) (cn o)
 lt:cn o<18446744073709551616
 nan:ag (x:Int)=true→o=none
 fin:af x→sB x=false→x % 9223372036854775808≠0→∃ y,o=some y∧af y
theorem FC (x:Nat):∃ o,x<18446744073709551616→LnR x o:=by
 by_cases h:x<18446744073709551616
 ·obtain⟨o,hb⟩:=CJ x (x:Int) rfl (an h)
  refine⟨o,fun _=>⟨fun w=>(hb.prog w).mono ?_,hb.doc,hb.lt,hb.nan,hb.fin⟩⟩
  rintro _ w' ⟨y,rfl,hag,hbb⟩
  exact⟨y,rfl,⟨hag,Ib hag fun q hq=>by have:=hb.lt;rw [hq,ar] at this;exact this⟩,hbb⟩
 ·exact⟨none,fun a=>absurd a h⟩
noncomputable def lnF (x:Nat):Option Nat:=Classical.choose (FC x)
theorem mL {x:Nat} (h:x<18446744073709551616):LnR x (lnF x):=Classical.choose_spec (FC x) h
def AgU (o:Option Nat) (x:Nat):Prop:=Ag o x∧x<18446744073709551616
theorem AgU.u {o:Option Nat} {x:Nat} (h:AgU o x):U64 (x:Int):=an h.2
end Go.Proofs.YtjjlnmihkadlmaaGreat
namespace Go.Proofs.YtjjlnmihkadlmaaGreat
open Go.RowKit

def endN (x:Nat):Nat:=if bL (x:Int)=true∧szI (x:Int)≠0 then x else 0
end Go.Proofs.YtjjlnmihkadlmaaGreat
