/-  -/
import Derived.Test.YtcmbfflemoccmaaGreatHat
import Derived.Test.YtcmbfflemoccmaaGreatHae
import Derived.Test.YtcmbfflemoccmaaGreatHas
namespace Go.Proofs.YtcmbfflemoccmaaGreat
open Go.RowKit

theorem pP {a b A B:Int} (h1: -A≤a) (h2:a≤A) (h3: -B≤b) (h4:b≤B): -(A*B)≤a*b∧a*b≤A*B:=by
 have h5:(a*b).natAbs≤(A*B).natAbs:=by
  rw [Int.natAbs_mul,Int.natAbs_mul]
  exact Nat.mul_le_mul (by omega) (by omega)
 have h6:0≤A*B:=Int.mul_nonneg (by omega) (by omega)
 omega
theorem jD {K:Nat} {g:Int} (hs:Scale K g) (j:Int) (h1: -10<j) (h2:j<10):Rep (1267650600228229401496703205376*(j*g)):=by
 have:=pL (j:=j) (E:=K) (by omega) (by omega) (by have:=hs.k;omega) (by have:=hs.k;omega)
 rw [hs.unit,← Int.mul_assoc,Int.mul_comm j,Int.mul_assoc] at this
 exact this
theorem xn {K:Nat} {g:Int} (hs:Scale K g) {p r:Nat} (hp:af p) (hr:af r) (p1: -(2535301200456458802993406410752*g)≤vI p) (p2:vI p≤2535301200456458802993406410752*g) (r1: -(633825300114114700748351602688*g)≤vI r) (r2:vI r≤633825300114114700748351602688*g) :
  ∃ z,floatBits .mul .f64 p r=some z∧af z∧z<18446744073709551616∧-(1267650600228229401496703205376*g)≤vI z∧vI z≤1267650600228229401496703205376*g:=by
 obtain⟨a,b⟩:=pP p1 p2 r1 r2
 have rA:=jD hs (-1) (by decide) (by decide)
 have rB:=jD hs 1 (by decide) (by decide)
 have e:(2535301200456458802993406410752*g)*(633825300114114700748351602688*g)=1267650600228229401496703205376*g*(1267650600228229401496703205376*g):=by
  rw [show (2535301200456458802993406410752:Int)*g=(1267650600228229401496703205376*g)*2 by omega,Int.mul_assoc (1267650600228229401496703205376*g),show (2:Int)*(633825300114114700748351602688*g)=1267650600228229401496703205376*g by omega]
 rw [e] at a b
 have f1:1267650600228229401496703205376*(-1*g)*((2^K:Nat):Int)≤vI p*vI r:=by
  rw [hs.unit,show (1267650600228229401496703205376:Int)*(-1*g)= -(1267650600228229401496703205376*g) by omega,Int.neg_mul];exact a
 have f2:vI p*vI r≤1267650600228229401496703205376*(1*g)*((2^K:Nat):Int):=by
  rw [hs.unit,Int.one_mul];exact b
 obtain⟨z,z1,z2,z3,z4⟩:=sA hs.k hp hr (zF rA rB f1 f2)
 have a1:=oP rA f1
 have a2:=kP rB f2
 rw [← z4] at a1 a2
 exact⟨z,z1,z2,z3,by omega,by omega⟩
theorem xo {K:Nat} {g:Int} (hs:Scale K g) {q c:Nat} (hq:af q) (hc:af c) (l:Int) (hl1: -10<l) (hl2:l<10) (t1:1267650600228229401496703205376*(l*g)≤vI q+vI c) (t2:vI q+vI c≤2535301200456458802993406410752*g) :
  ∃ z,floatBits .add .f64 q c=some z∧af z∧z<18446744073709551616∧1267650600228229401496703205376*(l*g)≤vI z∧vI z≤2535301200456458802993406410752*g:=by
 have rA:=jD hs l hl1 hl2
 have rB:=jD hs 2 (by decide) (by decide)
 have f1:1267650600228229401496703205376*(l*g)*((2^0:Nat):Int)≤vI q+vI c:=by rw [show ((2^0:Nat):Int)=1 from rfl,Int.mul_one];exact t1
 have f2:vI q+vI c≤1267650600228229401496703205376*(2*g)*((2^0:Nat):Int):=by rw [show ((2^0:Nat):Int)=1 from rfl,Int.mul_one];omega
 obtain⟨z,z1,z2,z3,z4⟩:=sx hq hc (zF rA rB f1 f2)
 have a1:=oP rA f1
 have a2:=kP rB f2
 rw [← z4] at a1 a2
 exact⟨z,z1,z2,z3,a1,by omega⟩
theorem sC {K:Nat} {g:Int} (hs:Scale K g):vI 4607182418800017408=1267650600228229401496703205376*g∧af 4607182418800017408:=by
 obtain⟨a,b,_⟩:=lh hs (m:=1) (by decide) (by decide)
 rw [Mh] at a b
 rw [Int.one_mul] at a
 exact⟨a,b⟩
theorem xp:∀ i,i<14→expL.getD i 0≤4607182418800017408:=by decide+kernel
theorem sD {K:Nat} {g:Int} (hs:Scale K g) {c:Nat} (h:c≤4607182418800017408):af c∧0≤vI c∧vI c≤1267650600228229401496703205376*g:=by
 have h1:vI c=(V c:Int):=by
  rw [gZ];unfold sB aV
  rw [show c / 9223372036854775808 % 2=0 by omega,show c % 9223372036854775808=c by omega];rfl
 have h2:vI 4607182418800017408=(V 4607182418800017408:Int):=by
  rw [gZ];unfold sB aV;rfl
 have h3:=CM h
 rw [(sC hs).1] at h2
 refine⟨by unfold af;omega,by omega,by omega⟩
theorem DZ {K:Nat} {g:Int} (hs:Scale K g) {r:Nat} (hr:af r) (r1: -(633825300114114700748351602688*g)≤vI r) (r2:vI r≤633825300114114700748351602688*g) :
  ∀ i,i≤12→∃ p,hornAt expL r i=some p∧af p∧-(2535301200456458802993406410752*g)≤vI p∧vI p≤2535301200456458802993406410752*g:=by
 have hg:=hs.pos
 intro i
 induction i with
 | zero=>
  intro _
  obtain⟨a,b,c⟩:=sD hs (xp 13 (by omega))
  exact⟨expL.getD 13 0,rfl,a,by omega,by omega⟩
 | succ i ih=>
  intro hi
  obtain⟨p,e,hp,p1,p2⟩:=ih (by omega)
  obtain⟨q,q0,qn,_,q1,q2⟩:=xn hs hp hr p1 p2 r1 r2
  obtain⟨a,b,c⟩:=sD hs (xp (14 - 2 - i) (by omega))
  obtain⟨z,z0,zn,_,z1,z2⟩:=xo hs qn a (-1) (by decide) (by decide) (by omega) (by omega)
  refine⟨z,?_,zn,by omega,z2⟩
  show fX r (hornAt expL r i) (expL.getD (14 - 2 - i) 0)=some z
  rw [e]
  show ((some p).bind fun p=>floatBits .mul .f64 p r).bind _=_
  rw [show ((some p).bind fun p=>floatBits .mul .f64 p r)=some q from q0]
  exact z0
theorem Hi {K:Nat} {g:Int} (hs:Scale K g) {r:Nat} (hr:af r) (r1: -(633825300114114700748351602688*g)≤vI r) (r2:vI r≤633825300114114700748351602688*g) :
  ∃ p,aX expL r=some p∧af p∧p<18446744073709551616∧0≤vI p:=by
 have hg:=hs.pos
 obtain⟨p,e,hp,p1,p2⟩:=DZ hs hr r1 r2 12 (by omega)
 obtain⟨q,q0,qn,_,q1,q2⟩:=xn hs hp hr p1 p2 r1 r2
 obtain⟨o1,o2⟩:=sC hs
 obtain⟨z,z0,zn,z64,z1,_⟩:=xo hs qn o2 0 (by decide) (by decide) (by rw [o1];omega) (by rw [o1];omega)
 refine⟨z,?_,zn,z64,by omega⟩
 show fX r (hornAt expL r 12) 4607182418800017408=some z
 rw [e]
 show ((some p).bind fun p=>floatBits .mul .f64 p r).bind _=_
 rw [show ((some p).bind fun p=>floatBits .mul .f64 p r)=some q from q0]
 exact z0

theorem MD {p:Nat} (hn:af p) (h64:p<18446744073709551616) (h0:0≤vI p):0≤az p∧az p<9007199254740992∧-2000≤aN p∧aN p≤2000:=by
 have hsz:szI (p:Int)=((p % 9223372036854775808:Nat):Int):=by unfold szI;omega
 have hok:aw (p:Int)=true:=by unfold aw;rw [hsz];unfold af at hn;simp;omega
 have hE: -2000≤aN p∧aN p≤2000:=by
  unfold aN kh
  rw [hsz]
  unfold af at hn
  split
  ·split<;>omega
  ·omega
 unfold az
 rw [hok,if_pos rfl,hsz]
 obtain⟨r,hr⟩:∃ r,p % 9223372036854775808=r:=⟨_,rfl⟩
 have hm:0≤gf (r:Int)∧gf (r:Int)<9007199254740992:=by unfold gf;split<;>omega
 have hz:sgB (p:Int)=true→r=0:=fun h=>by
  have h1:sB p=true:=by
   unfold sgB at h
   unfold sB
   have:9223372036854775808≤p:=by have:=of_decide_eq_true h;omega
   rw [show p / 9223372036854775808 % 2=1 by omega];rfl
  rw [gZ,h1] at h0
  have h2:aV p=0:=by unfold sgZ at h0;simp at h0;omega
  unfold aV at h2
  rw [hr] at h2
  have:=fu (r:=r) (s:=0)
  rw [bf] at this
  exact this.1 h2
 rw [hr]
 by_cases hsg:sgB (p:Int)=true
 ·rw [if_pos hsg,hz hsg]
  refine⟨by decide,by decide,hE.1,hE.2⟩
 ·rw [if_neg hsg]
  exact⟨hm.1,hm.2,hE.1,hE.2⟩
theorem Hj {m e:Int} (h:0≤m):aJ m e≤9218868437227405312:=by
 unfold aJ
 split
 ·omega
 ·rw [if_neg (by omega)];exact kI _ _

theorem Ea:∀ a:Nat,a<64→∀ b:Nat,b<64→floatToIntVal .f64 (fi (((64*a+b:Nat):Int) - 2000)) .i64=some (((64*a+b:Nat):Int) - 2000):=by decide+kernel
theorem Hk {k:Int} (h1: -2000≤k) (h2:k≤2000):floatToIntVal .f64 (fi k) .i64=some k:=by
 have:=Ea ((k+2000).toNat / 64) (by omega) ((k+2000).toNat % 64) (by omega)
 rw [show ((64*((k+2000).toNat / 64)+(k+2000).toNat % 64:Nat):Int) - 2000=k by omega] at this
 exact this
theorem KE {m:Int} (h1:0≤m) (h2:m<9007199254740992): -9223372036854775808≤m∧m≤9223372036854775807:=by omega

theorem pQ {a b:Nat} (ha:af a) (hb:af b) (ha2:a<18446744073709551616) (hb2:b<18446744073709551616) (h:ae a<ae b):vI a<vI b:=by
 have na:ah (a:Int)=false:=by unfold af at ha;unfold ah szI;rw [decide_eq_false_iff_not];omega
 have nb:ah (b:Int)=false:=by unfold af at hb;unfold ah szI;rw [decide_eq_false_iff_not];omega
 rw [← bY ha2 na,← bY hb2 nb] at h
 have e1:vI a=sgZ (a / 9223372036854775808 % 2==1) (V (a % 9223372036854775808)):=rfl
 have e2:vI b=sgZ (b / 9223372036854775808 % 2==1) (V (b % 9223372036854775808)):=rfl
 rw [e1,e2]
 generalize a % 9223372036854775808=r at *
 generalize b % 9223372036854775808=s at *
 generalize (a / 9223372036854775808 % 2==1)=p at *
 generalize (b / 9223372036854775808 % 2==1)=q at *
 have h1:=cN (r:=r) (s:=s)
 have h2:=cN (r:=s) (s:=r)
 have h3:=cN (r:=0) (s:=s)
 have h4:=cN (r:=0) (s:=r)
 rw [bf] at h3 h4
 unfold sgn at h
 unfold sgZ
 cases p<;>cases q<;>simp only [Bool.false_eq_true,if_true,if_false] at* <;>omega
theorem KF:fi 710=4649456441864749056:=by decide+kernel
theorem ME:fi (-746)=13873145138068324352:=by decide+kernel
end Go.Proofs.YtcmbfflemoccmaaGreat
namespace Go.Proofs.YtcmbfflemoccmaaGreat
open Go.RowKit

set_option maxHeartbeats 400000 in
theorem KJ (w:World) :
  Calls Tryz.prog 158 #[.int .i64 (-1)] w fun e w'=>e=.returned (.float .f64 18442240474082181120)∧w'=w:=by
 have h2:=cK
 go_enter Tryz.func158,Tryz.ntmps158
 go_wp2
 go_ret
 exact⟨rfl,rfl⟩
set_option maxHeartbeats 400000 in
theorem xr (w:World) :
  Calls Tryz.prog 165 #[] w fun e w'=>e=.returned (.float .f64 9221120237041090561)∧w'=w:=by
 have h2:=cK
 go_enter Tryz.func165,Tryz.ntmps165
 go_wp2
 go_ret
 exact⟨rfl,rfl⟩
set_option maxHeartbeats 400000 in
theorem mu (x:Nat) (g:Bool) (w:World) (hg:(FloatKind.f64.format.order x 9218868437227405311==some .gt)=g) :
  Calls Tryz.prog 56 #[.float .f64 x,.int .i64 1] w fun e w'=>e=.returned (.bool g)∧w'=w:=by
 go_enter Tryz.func56,Tryz.ntmps56
 go_wp2
 go_ret
 exact⟨rfl,rfl⟩

set_option maxRecDepth 20000 in
set_option maxHeartbeats 800000 in
theorem Ee (x m0 m1:Nat) (n e L:Int) (ok g:Bool) (w:World) (hS:Hid (∀ w,Calls Tryz.prog 163 #[.float .f64 x] w fun r w'=>r=.returned (.tuple #[.int .i64 n,.int .i64 e,.bool ok])∧w'=w))
  (hn:0<n∧n<9007199254740992) (he: -2000≤e∧e≤2000) (hL:Hid (∀ w,Calls Tryz.prog 199 #[.int .u64 n] w fun r w'=>r=.returned (.int .i64 L)∧w'=w)) (hL2:0≤L∧L≤64)
  (hJ:Hid (∀ w,Calls Tryz.prog 164 #[.int .i64 n,.int .i64 (1 - L)] w fun r w'=>r=.returned (.float .f64 m0)∧∃ q,w'=w.drewN q))
  (hg:(FloatKind.f64.format.order m0 4609047870845172685==some .gt)=g) (hd:floatBits .quo .f64 m0 4611686018427387904=some m1) :
  Calls Tryz.prog 166 #[.float .f64 x] w fun r w'=>r=.returned (.tuple #[.float .f64 (if g then m1 else m0),.int .i64 (if g then e+L else e+L - 1)])∧∃ q,w'=w.drewN q:=by
 have r1:=fun w=>run_float_arith (P:=Tryz.prog) w .quo 38 .f64 _ _ _ hd
 clear hd
 cases g
 all_goals
  simp only [Bool.false_eq_true,if_true,if_false]
  go_enter Tryz.func166,Tryz.ntmps166
  go_wp2_with fail
  refine (turned (hS.out _)).mono ?_
  rintro r w' ⟨rfl,rfl⟩
  go_wp2_with fail
  refine (turned (hL.out _)).mono ?_
  rintro r w' ⟨rfl,rfl⟩
  go_wp2_with fail
  refine (hJ.out _).mono ?_
  rintro r w' ⟨rfl,q,rfl⟩
  go_wp2_with fail
  go_ret2
  exact⟨rfl,_,rfl⟩

set_option maxHeartbeats 400000 in
theorem MF (x:Nat) (w:World) (h:U64 x) (hn:ah x=true) :
  Calls Tryz.prog 128 #[.float .f64 x] w fun e w'=>e=.returned (.float .f64 9221120237041090561)∧w'=w:=by
 have H:=hideS (bu x w h)
 rw [hn] at H
 clear h hn
 go_enter Tryz.func128,Tryz.ntmps128
 go_wp2_with fail
 refine H.out.mono ?_
 rintro e w' ⟨rfl,rfl⟩
 go_wp2_with fail
 refine (xr _).mono ?_
 rintro e w' ⟨rfl,rfl⟩
 go_wp2_with fail
 go_ret
 exact⟨rfl,rfl⟩

set_option maxHeartbeats 400000 in
theorem MG (x:Nat) (w:World) (h:U64 x) (hn:ah x=false) (hl:(FloatKind.f64.format.order x 0==some .lt)=true) :
  Calls Tryz.prog 128 #[.float .f64 x] w fun e w'=>e=.returned (.float .f64 9221120237041090561)∧w'=w:=by
 have H:=hideS (bu x w h)
 rw [hn] at H
 clear h hn
 go_enter Tryz.func128,Tryz.ntmps128
 go_wp2_with fail
 refine H.out.mono ?_
 rintro e w' ⟨rfl,rfl⟩
 go_wp2_with fail
 refine (xr _).mono ?_
 rintro e w' ⟨rfl,rfl⟩
 go_wp2_with fail
 go_ret
 exact⟨rfl,rfl⟩

set_option maxHeartbeats 400000 in
theorem KK (x:Nat) (w:World) (h:U64 x) (hn:ah x=false) (hl:(FloatKind.f64.format.order x 0==some .lt)=false) (he:(FloatKind.f64.format.order x 0==some .eq)=true) :
  Calls Tryz.prog 128 #[.float .f64 x] w fun e w'=>e=.returned (.float .f64 18442240474082181120)∧w'=w:=by
 have H:=hideS (bu x w h)
 rw [hn] at H
 clear h hn
 go_enter Tryz.func128,Tryz.ntmps128
 go_wp2_with fail
 refine H.out.mono ?_
 rintro e w' ⟨rfl,rfl⟩
 go_wp2_with fail
 refine (KJ _).mono ?_
 rintro e w' ⟨rfl,rfl⟩
 go_wp2_with fail
 go_ret
 exact⟨rfl,rfl⟩

set_option maxHeartbeats 400000 in
theorem MH (x:Nat) (w:World) (h:U64 x) (hn:ah x=false) (hl:(FloatKind.f64.format.order x 0==some .lt)=false) (he:(FloatKind.f64.format.order x 0==some .eq)=false) (hi:(FloatKind.f64.format.order x 9218868437227405311==some .gt)=true) :
  Calls Tryz.prog 128 #[.float .f64 x] w fun e w'=>e=.returned (.float .f64 x)∧w'=w:=by
 have H:=hideS (bu x w h)
 rw [hn] at H
 have HI:=hideS (mu x true w hi)
 clear h hn hi
 go_enter Tryz.func128,Tryz.ntmps128
 go_wp2_with fail
 refine H.out.mono ?_
 rintro e w' ⟨rfl,rfl⟩
 go_wp2_with fail
 refine HI.out.mono ?_
 rintro e w' ⟨rfl,rfl⟩
 go_wp2_with fail
 go_ret
 exact⟨rfl,rfl⟩

end Go.Proofs.YtcmbfflemoccmaaGreat
namespace Go.Proofs.YtcmbfflemoccmaaGreat
open Go.RowKit

end Go.Proofs.YtcmbfflemoccmaaGreat
namespace Go.Proofs.YtcmbfflemoccmaaGreat
open Go.RowKit

end Go.Proofs.YtcmbfflemoccmaaGreat
namespace Go.Proofs.YtcmbfflemoccmaaGreat
open Go.RowKit

def lj (f t:Int):Bool:=finB f&&ltB 0 f&&finB t&&ltB 0 t&&!ltB 4697254411347427328 t
theorem jE (f:Int):(finB f=false∧kc f=0∧dz f=91)∨(finB f=true∧kc f=f∧dz f=0):=by
 unfold kc dz
 cases h:finB f
 ·exact Or.inl ⟨rfl,rfl,rfl⟩
 ·exact Or.inr ⟨rfl,rfl,rfl⟩

set_option maxHeartbeats 800000 in
theorem rl (k f t:Int) (w:World) (h:¬ (1≤k∧k≤6)) :
  Calls Tryz.prog 44 #[.int .i64 k,.int .u64 f,.int .u64 t] w fun e w'=>e=.returned (.tuple #[.int .u64 0,.int .i64 90])∧Below w.heap.size w w':=by
 have HK:=hideS fun w=>dV k w
 rw [decide_eq_false h] at HK
 clear h
 go_enter Tryz.func44,Tryz.ntmps44
 go_wp2_with fail
 refine (HK.out _).mono ?_
 rintro e w' ⟨rfl,rfl⟩
 go_wp2_with fail
 go_ret2
 exact⟨rfl,Below.refl _ _⟩

set_option maxHeartbeats 3200000 in
theorem uu (k f t:Int) (w:World) (hk:1≤k∧k≤6) (hr:U64 f) (ht:U64 t) (h:lj f t=false) (HI:Hid (nC 72 1048576 4697254411347427328)) :
  Calls Tryz.prog 44 #[.int .i64 k,.int .u64 f,.int .u64 t] w fun e w'=>e=.returned (.tuple #[.int .u64 0,.int .i64 91])∧Below w.heap.size w w':=by
 have HK:=hideS fun w=>dV k w
 rw [decide_eq_true hk] at HK
 have H1:=hideS fun w=>aI f w hr
 have H2:=hideS fun w=>aS f w hr
 have H3:=hideS fun w=>aI t w ht
 have H4:=hideS fun w=>aS t w ht
 have H5:=hideS fun w=>fT t w ht HI
 unfold lj at h
 generalize finB f=b1 at *
 generalize ltB 0 f=b2 at *
 generalize finB t=b3 at *
 generalize ltB 0 t=b4 at *
 generalize ltB 4697254411347427328 t=b5 at *
 clear hk hr ht HI
 have hc:b1=false∨(b1=true∧b2=false)∨(b1=true∧b2=true∧b3=false)∨(b1=true∧b2=true∧b3=true∧b4=false)∨(b1=true∧b2=true∧b3=true∧b4=true∧b5=true):=by
  cases b1<;>cases b2<;>cases b3<;>cases b4<;>cases b5<;>simp at h ⊢
 clear h
 rcases hc with rfl | ⟨rfl,rfl⟩| ⟨rfl,rfl,rfl⟩| ⟨rfl,rfl,rfl,rfl⟩| ⟨rfl,rfl,rfl,rfl,rfl⟩
 ·go_enter Tryz.func44,Tryz.ntmps44
  go_wp2_with fail
  refine (HK.out _).mono ?_
  rintro e w' ⟨rfl,rfl⟩
  go_wp2_with fail
  refine (H1.out _).mono ?_
  rintro e w' ⟨rfl,rfl⟩
  go_wp2_with fail
  go_ret2
  exact⟨rfl,Below.refl _ _⟩
 ·go_enter Tryz.func44,Tryz.ntmps44
  go_wp2_with fail
  refine (HK.out _).mono ?_
  rintro e w' ⟨rfl,rfl⟩
  go_wp2_with fail
  refine (H1.out _).mono ?_
  rintro e w' ⟨rfl,rfl⟩
  go_wp2_with fail
  refine (H2.out _).mono ?_
  rintro e w' ⟨rfl,rfl⟩
  go_wp2_with fail
  go_ret2
  exact⟨rfl,Below.refl _ _⟩
 ·go_enter Tryz.func44,Tryz.ntmps44
  go_wp2_with fail
  refine (HK.out _).mono ?_
  rintro e w' ⟨rfl,rfl⟩
  go_wp2_with fail
  refine (H1.out _).mono ?_
  rintro e w' ⟨rfl,rfl⟩
  go_wp2_with fail
  refine (H2.out _).mono ?_
  rintro e w' ⟨rfl,rfl⟩
  go_wp2_with fail
  refine (H3.out _).mono ?_
  rintro e w' ⟨rfl,rfl⟩
  go_wp2_with fail
  go_ret2
  exact⟨rfl,Below.refl _ _⟩
 ·go_enter Tryz.func44,Tryz.ntmps44
  go_wp2_with fail
  refine (HK.out _).mono ?_
  rintro e w' ⟨rfl,rfl⟩
  go_wp2_with fail
  refine (H1.out _).mono ?_
  rintro e w' ⟨rfl,rfl⟩
  go_wp2_with fail
  refine (H2.out _).mono ?_
  rintro e w' ⟨rfl,rfl⟩
  go_wp2_with fail
  refine (H3.out _).mono ?_
  rintro e w' ⟨rfl,rfl⟩
  go_wp2_with fail
  refine (H4.out _).mono ?_
  rintro e w' ⟨rfl,rfl⟩
  go_wp2_with fail
  go_ret2
  exact⟨rfl,Below.refl _ _⟩
 ·go_enter Tryz.func44,Tryz.ntmps44
  go_wp2_with fail
  refine (HK.out _).mono ?_
  rintro e w' ⟨rfl,rfl⟩
  go_wp2_with fail
  refine (H1.out _).mono ?_
  rintro e w' ⟨rfl,rfl⟩
  go_wp2_with fail
  refine (H2.out _).mono ?_
  rintro e w' ⟨rfl,rfl⟩
  go_wp2_with fail
  refine (H3.out _).mono ?_
  rintro e w' ⟨rfl,rfl⟩
  go_wp2_with fail
  refine (H4.out _).mono ?_
  rintro e w' ⟨rfl,rfl⟩
  go_wp2_with fail
  refine (H5.out _).mono ?_
  rintro e w1 ⟨rfl,hb⟩
  go_wp2_with fail
  go_ret2
  exact⟨rfl,hb⟩

set_option maxHeartbeats 6400000 in
theorem nI (f t mm ln mi q d r:Int) (w:World) (hr:U64 f) (ht:U64 t) (h:lj f t=true) (HI:Hid (nC 72 1048576 4697254411347427328)) (HL:Hid (nB 62 f ln)) (HF:Hid (nB 74 ln mi)) (HM:Hid (nC 72 0 mm)) (H6:Hid (kA 68 4607182418800017408 f q)) (H7:Hid (kA 69 q 4607182418800017408 d)) (H8:Hid (kA 68 d t r)) (hf:U64 r) :
  Calls Tryz.prog 44 #[.int .i64 1,.int .u64 f,.int .u64 t] w fun e w'=>e=.returned (.tuple #[.int .u64 (kc r),.int .i64 (dz r)])∧Below w.heap.size w w':=by
 obtain⟨k,hk1⟩:∃ k:Int,k=1:=⟨_,rfl⟩
 have hk:1≤k∧k≤6:=by omega
 have HK:=hideS fun w=>dV k w
 rw [decide_eq_true hk] at HK
 have H1:=hideS fun w=>aI f w hr
 have H2:=hideS fun w=>aS f w hr
 have H3:=hideS fun w=>aI t w ht
 have H4:=hideS fun w=>aS t w ht
 have H5:=hideS fun w=>fT t w ht HI
 have HTm:=hideS fun w=>gQ k w hk
 unfold lj at h
 have hc:finB f=true∧ltB 0 f=true∧finB t=true∧ltB 0 t=true∧ltB 4697254411347427328 t=false:=by
  cases h1:finB f<;>cases h2:ltB 0 f<;>cases h3:finB t<;>cases h4:ltB 0 t<;>cases h5:ltB 4697254411347427328 t<;>simp [h1,h2,h3,h4,h5] at h ⊢
 rw [hc.1] at H1
 rw [hc.2.1] at H2
 rw [hc.2.2.1] at H3
 rw [hc.2.2.2.1] at H4
 rw [hc.2.2.2.2] at H5
 clear h hc hr ht HI
 have HN:=hideS fun w=>aI r w hf
 have hE:=jE r
 clear hf
 generalize kc r=eu at *
 generalize dz r=ee at *
 subst hk1
 dsimp only [lO] at HTm
 go_enter Tryz.func44,Tryz.ntmps44
 go_wp2_with fail
 refine (HK.out _).mono ?_
 rintro e w' ⟨rfl,rfl⟩
 go_wp2_with fail
 refine (H1.out _).mono ?_
 rintro e w' ⟨rfl,rfl⟩
 go_wp2_with fail
 refine (H2.out _).mono ?_
 rintro e w' ⟨rfl,rfl⟩
 go_wp2_with fail
 refine (H3.out _).mono ?_
 rintro e w' ⟨rfl,rfl⟩
 go_wp2_with fail
 refine (H4.out _).mono ?_
 rintro e w' ⟨rfl,rfl⟩
 go_wp2_with fail
 refine (H5.out _).mono ?_
 rintro e w1 ⟨rfl,hb⟩
 have HB1:=hideS hb
 clear hb
 go_wp2_with fail
 refine (HTm.out _).mono ?_
 rintro e w' ⟨rfl,rfl⟩
 go_wp2_with fail
 refine (HM.out _).mono ?_
 rintro e w2 ⟨rfl,hb⟩
 have HB2:=hideS (HB1.out.trans (hb.mono HB1.out.size))
 clear hb HB1
 go_wp2_with fail
 refine (HL.out _).mono ?_
 rintro e w3 ⟨rfl,hb⟩
 have HB3:=hideS (HB2.out.trans (hb.mono HB2.out.size))
 clear hb HB2
 go_wp2_with fail
 refine (HF.out _).mono ?_
 rintro e w4 ⟨rfl,hb⟩
 have HB4:=hideS (HB3.out.trans (hb.mono HB3.out.size))
 clear hb HB3
 go_wp2_with fail
 refine (H6.out _).mono ?_
 rintro e w5 ⟨rfl,hb⟩
 have HB5:=hideS (HB4.out.trans (hb.mono HB4.out.size))
 clear hb HB4
 go_wp2_with fail
 refine (H7.out _).mono ?_
 rintro e w6 ⟨rfl,hb⟩
 have HB6:=hideS (HB5.out.trans (hb.mono HB5.out.size))
 clear hb HB5
 go_wp2_with fail
 refine (H8.out _).mono ?_
 rintro e w7 ⟨rfl,hb⟩
 have HB7:=hideS (HB6.out.trans (hb.mono HB6.out.size))
 clear hb HB6
 rcases hE with⟨e1,e2,e3⟩| ⟨e1,e2,e3⟩
 ·rw [e1] at HN
  go_wp2_with fail
  refine (HN.out _).mono ?_
  rintro e w' ⟨rfl,rfl⟩
  go_wp2_with fail
  go_ret2
  exact⟨by rw [e2,e3];rfl,HB7.out⟩
 ·rw [e1] at HN
  go_wp2_with fail
  refine (HN.out _).mono ?_
  rintro e w' ⟨rfl,rfl⟩
  go_wp2_with fail
  go_ret2
  exact⟨by rw [e2,e3];rfl,HB7.out⟩

set_option maxHeartbeats 6400000 in
theorem rm (f t mm ln mi r:Int) (w:World) (hr:U64 f) (ht:U64 t) (h:lj f t=true) (HI:Hid (nC 72 1048576 4697254411347427328)) (HL:Hid (nB 62 f ln)) (HF:Hid (nB 74 ln mi)) (HM:Hid (nC 72 0 mm)) (H6:Hid (kA 68 mi t r)) (hf:U64 r) :
  Calls Tryz.prog 44 #[.int .i64 6,.int .u64 f,.int .u64 t] w fun e w'=>e=.returned (.tuple #[.int .u64 (kc r),.int .i64 (dz r)])∧Below w.heap.size w w':=by
 obtain⟨k,hk1⟩:∃ k:Int,k=6:=⟨_,rfl⟩
 have hk:1≤k∧k≤6:=by omega
 have HK:=hideS fun w=>dV k w
 rw [decide_eq_true hk] at HK
 have H1:=hideS fun w=>aI f w hr
 have H2:=hideS fun w=>aS f w hr
 have H3:=hideS fun w=>aI t w ht
 have H4:=hideS fun w=>aS t w ht
 have H5:=hideS fun w=>fT t w ht HI
 have HTm:=hideS fun w=>gQ k w hk
 unfold lj at h
 have hc:finB f=true∧ltB 0 f=true∧finB t=true∧ltB 0 t=true∧ltB 4697254411347427328 t=false:=by
  cases h1:finB f<;>cases h2:ltB 0 f<;>cases h3:finB t<;>cases h4:ltB 0 t<;>cases h5:ltB 4697254411347427328 t<;>simp [h1,h2,h3,h4,h5] at h ⊢
 rw [hc.1] at H1
 rw [hc.2.1] at H2
 rw [hc.2.2.1] at H3
 rw [hc.2.2.2.1] at H4
 rw [hc.2.2.2.2] at H5
 clear h hc hr ht HI
 have HN:=hideS fun w=>aI r w hf
 have hE:=jE r
 clear hf
 generalize kc r=eu at *
 generalize dz r=ee at *
 subst hk1
 dsimp only [lO] at HTm
 go_enter Tryz.func44,Tryz.ntmps44
 go_wp2_with fail
 refine (HK.out _).mono ?_
 rintro e w' ⟨rfl,rfl⟩
 go_wp2_with fail
 refine (H1.out _).mono ?_
 rintro e w' ⟨rfl,rfl⟩
 go_wp2_with fail
 refine (H2.out _).mono ?_
 rintro e w' ⟨rfl,rfl⟩
 go_wp2_with fail
 refine (H3.out _).mono ?_
 rintro e w' ⟨rfl,rfl⟩
 go_wp2_with fail
 refine (H4.out _).mono ?_
 rintro e w' ⟨rfl,rfl⟩
 go_wp2_with fail
 refine (H5.out _).mono ?_
 rintro e w1 ⟨rfl,hb⟩
 have HB1:=hideS hb
 clear hb
 go_wp2_with fail
 refine (HTm.out _).mono ?_
 rintro e w' ⟨rfl,rfl⟩
 go_wp2_with fail
 refine (HM.out _).mono ?_
 rintro e w2 ⟨rfl,hb⟩
 have HB2:=hideS (HB1.out.trans (hb.mono HB1.out.size))
 clear hb HB1
 go_wp2_with fail
 refine (HL.out _).mono ?_
 rintro e w3 ⟨rfl,hb⟩
 have HB3:=hideS (HB2.out.trans (hb.mono HB2.out.size))
 clear hb HB2
 go_wp2_with fail
 refine (HF.out _).mono ?_
 rintro e w4 ⟨rfl,hb⟩
 have HB4:=hideS (HB3.out.trans (hb.mono HB3.out.size))
 clear hb HB3
 go_wp2_with fail
 refine (H6.out _).mono ?_
 rintro e w5 ⟨rfl,hb⟩
 have HB5:=hideS (HB4.out.trans (hb.mono HB4.out.size))
 clear hb HB4
 rcases hE with⟨e1,e2,e3⟩| ⟨e1,e2,e3⟩
 ·rw [e1] at HN
  go_wp2_with fail
  refine (HN.out _).mono ?_
  rintro e w' ⟨rfl,rfl⟩
  go_wp2_with fail
  go_ret2
  exact⟨by rw [e2,e3];rfl,HB5.out⟩
 ·rw [e1] at HN
  go_wp2_with fail
  refine (HN.out _).mono ?_
  rintro e w' ⟨rfl,rfl⟩
  go_wp2_with fail
  go_ret2
  exact⟨by rw [e2,e3];rfl,HB5.out⟩

set_option maxHeartbeats 6400000 in
theorem pU (k f t mm ln mi p q x d r:Int) (w:World) (hr:U64 f) (ht:U64 t) (h:lj f t=true) (HI:Hid (nC 72 1048576 4697254411347427328)) (HL:Hid (nB 62 f ln)) (HF:Hid (nB 74 ln mi)) (hk2:2≤k∧k≤5) (HM:Hid (nC 72 (lO k) mm)) (H6:Hid (kA 75 mm t p)) (H7:Hid (kA 68 mi p q)) (H8:Hid (nB 61 q x)) (H9:Hid (kA 69 x 4607182418800017408 d)) (H10:Hid (kA 75 mm d r)) (hf:U64 r) :
  Calls Tryz.prog 44 #[.int .i64 k,.int .u64 f,.int .u64 t] w fun e w'=>e=.returned (.tuple #[.int .u64 (kc r),.int .i64 (dz r)])∧Below w.heap.size w w':=by
 have hk:1≤k∧k≤6:=by omega
 have hn1:¬ k=1:=by omega
 have hn6:¬ k=6:=by omega
 have hq1:(k==1)=false:=beq_eq_false_iff_ne.2 hn1
 have hq6:(k==6)=false:=beq_eq_false_iff_ne.2 hn6
 have HK:=hideS fun w=>dV k w
 rw [decide_eq_true hk] at HK
 have H1:=hideS fun w=>aI f w hr
 have H2:=hideS fun w=>aS f w hr
 have H3:=hideS fun w=>aI t w ht
 have H4:=hideS fun w=>aS t w ht
 have H5:=hideS fun w=>fT t w ht HI
 have HTm:=hideS fun w=>gQ k w hk
 unfold lj at h
 have hc:finB f=true∧ltB 0 f=true∧finB t=true∧ltB 0 t=true∧ltB 4697254411347427328 t=false:=by
  cases h1:finB f<;>cases h2:ltB 0 f<;>cases h3:finB t<;>cases h4:ltB 0 t<;>cases h5:ltB 4697254411347427328 t<;>simp [h1,h2,h3,h4,h5] at h ⊢
 rw [hc.1] at H1
 rw [hc.2.1] at H2
 rw [hc.2.2.1] at H3
 rw [hc.2.2.2.1] at H4
 rw [hc.2.2.2.2] at H5
 clear h hc hr ht HI
 have HN:=hideS fun w=>aI r w hf
 have hE:=jE r
 clear hf
 generalize kc r=eu at *
 generalize dz r=ee at *
 generalize lO k=tk at *
 clear hk hk2
 go_enter Tryz.func44,Tryz.ntmps44
 go_wp2_with fail
 refine (HK.out _).mono ?_
 rintro e w' ⟨rfl,rfl⟩
 go_wp2_with fail
 refine (H1.out _).mono ?_
 rintro e w' ⟨rfl,rfl⟩
 go_wp2_with fail
 refine (H2.out _).mono ?_
 rintro e w' ⟨rfl,rfl⟩
 go_wp2_with fail
 refine (H3.out _).mono ?_
 rintro e w' ⟨rfl,rfl⟩
 go_wp2_with fail
 refine (H4.out _).mono ?_
 rintro e w' ⟨rfl,rfl⟩
 go_wp2_with fail
 refine (H5.out _).mono ?_
 rintro e w1 ⟨rfl,hb⟩
 have HB1:=hideS hb
 clear hb
 go_wp2_with fail
 refine (HTm.out _).mono ?_
 rintro e w' ⟨rfl,rfl⟩
 go_wp2_with fail
 refine (HM.out _).mono ?_
 rintro e w2 ⟨rfl,hb⟩
 have HB2:=hideS (HB1.out.trans (hb.mono HB1.out.size))
 clear hb HB1
 go_wp2_with fail
 refine (HL.out _).mono ?_
 rintro e w3 ⟨rfl,hb⟩
 have HB3:=hideS (HB2.out.trans (hb.mono HB2.out.size))
 clear hb HB2
 go_wp2_with fail
 refine (HF.out _).mono ?_
 rintro e w4 ⟨rfl,hb⟩
 have HB4:=hideS (HB3.out.trans (hb.mono HB3.out.size))
 clear hb HB3
 go_wp2_with fail
 refine (H6.out _).mono ?_
 rintro e w5 ⟨rfl,hb⟩
 have HB5:=hideS (HB4.out.trans (hb.mono HB4.out.size))
 clear hb HB4
 go_wp2_with fail
 refine (H7.out _).mono ?_
 rintro e w6 ⟨rfl,hb⟩
 have HB6:=hideS (HB5.out.trans (hb.mono HB5.out.size))
 clear hb HB5
 go_wp2_with fail
 refine (H8.out _).mono ?_
 rintro e w7 ⟨rfl,hb⟩
 have HB7:=hideS (HB6.out.trans (hb.mono HB6.out.size))
 clear hb HB6
 go_wp2_with fail
 refine (H9.out _).mono ?_
 rintro e w8 ⟨rfl,hb⟩
 have HB8:=hideS (HB7.out.trans (hb.mono HB7.out.size))
 clear hb HB7
 go_wp2_with fail
 refine (H10.out _).mono ?_
 rintro e w9 ⟨rfl,hb⟩
 have HB9:=hideS (HB8.out.trans (hb.mono HB8.out.size))
 clear hb HB8
 rcases hE with⟨e1,e2,e3⟩| ⟨e1,e2,e3⟩
 ·rw [e1] at HN
  go_wp2_with fail
  refine (HN.out _).mono ?_
  rintro e w' ⟨rfl,rfl⟩
  go_wp2_with fail
  go_ret2
  exact⟨by rw [e2,e3];rfl,HB9.out⟩
 ·rw [e1] at HN
  go_wp2_with fail
  refine (HN.out _).mono ?_
  rintro e w' ⟨rfl,rfl⟩
  go_wp2_with fail
  go_ret2
  exact⟨by rw [e2,e3];rfl,HB9.out⟩
end Go.Proofs.YtcmbfflemoccmaaGreat
namespace Go.Proofs.YtcmbfflemoccmaaGreat
open Go.RowKit

def aT (u:Int):Bool:=finB u&&ltB 0 u
def fwI (a b c:Int):Nat→Int
 | 0=>a
 | 1=>b
 | _=>c
theorem Ia {a b c:Int} (ha:U64 a) (hb:U64 b) (hc:U64 c):∀ m,U64 (fwI a b c m)
 | 0=>ha
 | 1=>hb
 | _+2=>hc
theorem Cs (w:World) (a b c:Int) (m:Nat) (hm:m<3):(w.alloc (.cells #[.int .u64 a,.int .u64 b,.int .u64 c] 51)).cell? ⟨w.heap.size,m,none⟩=some (.int .u64 (fwI a b c m)):=by
 rcases (show m=0∨m=1∨m=2 by omega) with rfl | rfl | rfl
 ·simp [fwI]
 ·simp [fwI]
 ·simp [fwI]

set_option maxHeartbeats 3200000 in
theorem pV (a b c:Int) (w:World) (ha:U64 a) (hb:U64 b) (hc:U64 c) (h:(aT a&&aT b&&aT c)=false) :
  Calls Tryz.prog 43 #[.int .u64 a,.int .u64 b,.int .u64 c] w fun e w'=>e=.returned (.tuple #[.int .u64 0,.int .i64 91])∧Below w.heap.size w w':=by
 have HU:=hideS (Ia ha hb hc)
 have HC:=hideS (Cs w a b c)
 have HAll:Hid (¬ ∀ j<3,aT (fwI a b c j)=true):=fun f=>by
  have f0:aT a=true:=f 0 (by omega)
  have f1:aT b=true:=f 1 (by omega)
  have f2:aT c=true:=f 2 (by omega)
  rw [f0,f1,f2] at h;exact Bool.noConfusion h
 have HBw:=hideS ((Below.refl w.heap.size w).alloc (Nat.le_refl _) (.cells #[.int .u64 a,.int .u64 b,.int .u64 c] 51))
 clear ha hb hc h
 go_enter Tryz.func43,Tryz.ntmps43
 go_wp2_with fail
 generalize hwa:w.alloc (.cells #[.int .u64 a,.int .u64 b,.int .u64 c] 51)=wa at *
 clear hwa
 generalize fwI a b c=V at *
 go_loopw [9] (fun i wr=>∃ m:Nat,m≤3∧i=.int .i64 m∧Hid (wr=wa)∧Hid (∀ j<m,aT (V j)=true)) (fun i _=>3 - (intOf i).toNat)
 case atStart=>exact⟨0,by omega,rfl,rfl,fun j hj=>by omega⟩
 case round=>
  obtain⟨m,hm,rfl,HW,HJ⟩:=hrel
  obtain rfl:wr=wa:=HW.out
  by_cases hlt:m<3
  ·have k0:=HC.out m hlt
   have H1:=hideS fun w=>aI (V m) w (HU.out m)
   have H2:=hideS fun w=>aS (V m) w (HU.out m)
   have HP:Hid (finB (V m)=true→ltB 0 (V m)=true→∀ j<m+1,aT (V j)=true):=fun a b j hj=>by
    by_cases e:j<m
    ·exact HJ.out j e
    ·obtain rfl:j=m:=by omega
     unfold aT;rw [a,b];rfl
   generalize V m=x at *
   generalize finB x=b1 at *
   generalize ltB 0 x=b2 at *
   have hi:(m:Int)<3:=by omega
   cases b1
   ·go_wp2_with fail
    refine (H1.out _).mono ?_
    rintro e w' ⟨rfl,rfl⟩
    go_wp2_with fail
    go_ret2
    exact⟨rfl,HBw.out⟩
   ·cases b2
    ·go_wp2_with fail
     refine (H1.out _).mono ?_
     rintro e w' ⟨rfl,rfl⟩
     go_wp2_with fail
     refine (H2.out _).mono ?_
     rintro e w' ⟨rfl,rfl⟩
     go_wp2_with fail
     go_ret2
     exact⟨rfl,HBw.out⟩
    ·have HP2:=hideS (HP.out rfl rfl)
     go_wp2_with fail
     refine (H1.out _).mono ?_
     rintro e w' ⟨rfl,rfl⟩
     go_wp2_with fail
     refine (H2.out _).mono ?_
     rintro e w' ⟨rfl,rfl⟩
     go_wp2_with fail
     go_roundw
     case rel=>exact⟨m+1,by omega,by go_num,trivial,HP2⟩
     case measure=>simp [intOf];omega
  ·obtain rfl:m=3:=by omega
   exact absurd HJ.out HAll.out

set_option maxHeartbeats 3200000 in
theorem ro (a b c q d r:Int) (w:World) (ha:U64 a) (hb:U64 b) (hc:U64 c) (h:(aT a&&aT b&&aT c)=true) (H6:Hid (kA 68 a b q)) (H7:Hid (kA 69 q 4607182418800017408 d)) (H8:Hid (kA 68 d c r)) (hf:U64 r) :
  Calls Tryz.prog 43 #[.int .u64 a,.int .u64 b,.int .u64 c] w fun e w'=>e=.returned (.tuple #[.int .u64 (kc r),.int .i64 (dz r)])∧Below w.heap.size w w':=by
 have HU:=hideS (Ia ha hb hc)
 have HC:=hideS (Cs w a b c)
 have HAll:Hid (∀ j<3,finB (fwI a b c j)=true∧ltB 0 (fwI a b c j)=true):=by
  have h0:aT a=true∧aT b=true∧aT c=true:=by
   cases h1:aT a<;>cases h2:aT b<;>cases h3:aT c<;>simp [h1,h2,h3] at h ⊢
  have e:∀ x,aT x=true→finB x=true∧ltB 0 x=true:=fun x hx=>by
   unfold aT at hx
   cases h1:finB x<;>cases h2:ltB 0 x<;>simp [h1,h2] at hx ⊢
  intro j hj
  rcases (show j=0∨j=1∨j=2 by omega) with rfl | rfl | rfl
  ·exact e _ h0.1
  ·exact e _ h0.2.1
  ·exact e _ h0.2.2
 have HN:=hideS fun w=>aI r w hf
 have hE:=jE r
 generalize kc r=eu at *
 generalize dz r=ee at *
 have HB0:=hideS ((Below.refl w.heap.size w).alloc (Nat.le_refl _) (.cells #[.int .u64 a,.int .u64 b,.int .u64 c] 51))
 clear ha hb hc h hf
 go_enter Tryz.func43,Tryz.ntmps43
 go_wp2_with fail
 generalize hwa:w.alloc (.cells #[.int .u64 a,.int .u64 b,.int .u64 c] 51)=wa at *
 clear hwa
 generalize fwI a b c=V at *
 go_loopw [9] (fun i wr=>∃ m:Nat,m≤3∧i=.int .i64 m∧Hid (wr=wa)) (fun i _=>3 - (intOf i).toNat)
 case atStart=>exact⟨0,by omega,rfl,rfl⟩
 case round=>
  obtain⟨m,hm,rfl,HW⟩:=hrel
  obtain rfl:wr=wa:=HW.out
  by_cases hlt:m<3
  ·have k0:=HC.out m hlt
   have H1:=hideS fun w=>aI (V m) w (HU.out m)
   have H2:=hideS fun w=>aS (V m) w (HU.out m)
   rw [(HAll.out m hlt).1] at H1
   rw [(HAll.out m hlt).2] at H2
   generalize V m=x at *
   have hi:(m:Int)<3:=by omega
   go_wp2_with fail
   refine (H1.out _).mono ?_
   rintro e w' ⟨rfl,rfl⟩
   go_wp2_with fail
   refine (H2.out _).mono ?_
   rintro e w' ⟨rfl,rfl⟩
   go_wp2_with fail
   go_roundw
   case rel=>exact⟨m+1,by omega,by go_num,trivial⟩
   case measure=>simp [intOf];omega
  ·obtain rfl:m=3:=by omega
   go_wp2_with fail
   refine (H6.out _).mono ?_
   rintro e w1 ⟨rfl,hb⟩
   have HB1:=hideS (HB0.out.trans (hb.mono HB0.out.size))
   clear hb HB0
   go_wp2_with fail
   refine (H7.out _).mono ?_
   rintro e w2 ⟨rfl,hb⟩
   have HB2:=hideS (HB1.out.trans (hb.mono HB1.out.size))
   clear hb HB1
   go_wp2_with fail
   refine (H8.out _).mono ?_
   rintro e w3 ⟨rfl,hb⟩
   have HB3:=hideS (HB2.out.trans (hb.mono HB2.out.size))
   clear hb HB2
   rcases hE with⟨e1,e2,e3⟩| ⟨e1,e2,e3⟩
   all_goals
    rw [e1] at HN
    go_wp2_with fail
    refine (HN.out _).mono ?_
    rintro e w' ⟨rfl,rfl⟩
    go_wp2_with fail
    go_ret2
    exact⟨by rw [e2,e3];rfl,HB3.out⟩

end Go.Proofs.YtcmbfflemoccmaaGreat
namespace Go.Proofs.YtcmbfflemoccmaaGreat
open Go.RowKit

def prvF (fs:List Nat):Nat→Nat
 | 0=>4607182418800017408
 | k+1=>fs.getD k 0
def qd (fs:List Nat):Bool:=(List.range fs.length).all fun i=>!ltB (prvF fs i:Nat) (fs.getD i 0:Nat)
inductive FallR (fs:List Nat):Bool→Prop
 | yes (h:∀ i<fs.length,ltB (prvF fs i:Nat) (fs.getD i 0:Nat)=false):FallR fs true
 | no (K:Nat) (hK:K<fs.length) (bad:ltB (prvF fs K:Nat) (fs.getD K 0:Nat)=true) (fine:∀ i<K,ltB (prvF fs i:Nat) (fs.getD i 0:Nat)=false):FallR fs false
theorem Im (fs:List Nat):FallR fs (qd fs):=by
 by_cases hb:∃ i<fs.length,ltB (prvF fs i:Nat) (fs.getD i 0:Nat)=true
 ·obtain⟨K,hK,h1,h2⟩:=eS _ hb
  have:qd fs=false:=by
   unfold qd
   rw [List.all_eq_false]
   exact⟨K,List.mem_range.2 hK,by rw [h1];decide⟩
  rw [this];exact .no K hK h1 h2
 ·have hf:∀ i<fs.length,ltB (prvF fs i:Nat) (fs.getD i 0:Nat)=false:=fun i hi=>by
   cases hc:ltB (prvF fs i:Nat) (fs.getD i 0:Nat)
   ·rfl
   ·exact absurd ⟨i,hi,hc⟩ hb
  have:qd fs=true:=by
   unfold qd
   rw [List.all_eq_true]
   intro i hi
   rw [hf i (List.mem_range.1 hi)];rfl
  rw [this];exact .yes hf
end Go.Proofs.YtcmbfflemoccmaaGreat
namespace Go.Proofs.YtcmbfflemoccmaaGreat
open Go.RowKit

structure FwB (w:World) (base ck W:Int) (vd vf v:Value) (wr:World):Prop where
 t0:wr.cell? ⟨w.heap.size,0,none⟩=some (.int .i64 base)
 t1:wr.cell? ⟨w.heap.size,1,none⟩=some (.int .i64 ck)
 t2:wr.cell? ⟨w.heap.size,2,none⟩=some vd
 t3:wr.cell? ⟨w.heap.size,3,none⟩=some vf
 k0:wr.cell? ⟨w.heap.size+1,0,none⟩=some (.int .i64 W)
 k1:wr.cell? ⟨w.heap.size+1,1,none⟩=some v
 bl:Below w.heap.size w wr
 lt:w.heap.size+1<wr.heap.size
theorem FwB.step {w wr w':World} {base ck W:Int} {vd vf v:Value} (h:FwB w base ck W vd vf v wr) (hb:Below wr.heap.size wr w'):FwB w base ck W vd vf v w':=by
 have c:∀ k<2,∀ j,w'.cell? ⟨w.heap.size+k,j,none⟩=wr.cell? ⟨w.heap.size+k,j,none⟩:=fun k hk j=>hb.cell (p:=⟨w.heap.size+k,j,none⟩) (by have:=h.lt;show w.heap.size+k<_;omega)
 exact⟨(c 0 (by omega) 0).trans h.t0,(c 0 (by omega) 1).trans h.t1,(c 0 (by omega) 2).trans h.t2,(c 0 (by omega) 3).trans h.t3,(c 1 (by omega) 0).trans h.k0,(c 1 (by omega) 1).trans h.k1,h.bl.trans (hb.mono h.bl.size),Nat.lt_of_lt_of_le h.lt hb.size⟩
theorem cJ (w:World) (base ck W:Int) (vd vf v:Value) (t:TypeId):FwB w base ck W vd vf v ((w.alloc (.cells #[.int .i64 base,.int .i64 ck,vd,vf] t)).alloc (.cells #[.int .i64 W,v] 44)):=
 ⟨by simp,by simp,by simp,by simp,by simp,by simp,((Below.refl _ _).alloc (Nat.le_refl _) _).alloc (by simp) _,by simp⟩
set_option maxRecDepth 20000 in
set_option maxHeartbeats 1600000 in
theorem vg (base ck kind W a b:Int) (vd vf v:Value) (E:Int) (X:Nat) (w:World) (hE:E≠0) (HX:Hid (∀ wx,Below w.heap.size w wx→Calls Tryz.prog 15 #[.agg #[.int .i64 base,.int .i64 ck,vd,vf],.int .i64 a] wx fun e w'=>e=.returned (.tuple #[.float .f64 X,.int .i64 E])∧Below wx.heap.size wx w')) :
  Calls Tryz.prog 16 #[.agg #[.int .i64 base,.int .i64 ck,vd,vf],.int .i64 kind,.agg #[.int .i64 W,v],.int .i64 a,.int .i64 b] w fun e w'=>e=.returned (.tuple #[.float .f64 0,.int .i64 E])∧Below w.heap.size w w':=by
 have HB:=hideS (cJ w base ck W vd vf v 25)
 have d1:(E !=0)=true:=bne_iff_ne.2 hE
 clear hE
 go_enter Tryz.func16,Tryz.ntmps16
 go_wp2_with fail
 refine (HX.out _ HB.out.bl).mono ?_
 rintro e w1 ⟨rfl,hb1⟩
 have HB1:=hideS (HB.out.step hb1)
 clear hb1 HB HX
 have t0:=HB1.out.t0
 have t1:=HB1.out.t1
 have t2:=HB1.out.t2
 have t3:=HB1.out.t3
 have k0:=HB1.out.k0
 have k1:=HB1.out.k1
 go_wp2_with fail
 go_ret2
 exact⟨rfl,HB1.out.bl⟩
set_option maxRecDepth 20000 in
set_option maxHeartbeats 1600000 in
theorem vh (base ck kind W a b:Int) (vd vf v:Value) (E:Int) (X Y:Nat) (w:World) (hE:E≠0) (HX:Hid (∀ wx,Below w.heap.size w wx→Calls Tryz.prog 15 #[.agg #[.int .i64 base,.int .i64 ck,vd,vf],.int .i64 a] wx fun e w'=>e=.returned (.tuple #[.float .f64 X,.int .i64 0])∧Below wx.heap.size wx w')) (HX2:Hid (∀ wx,Below w.heap.size w wx→Calls Tryz.prog 15 #[.agg #[.int .i64 base,.int .i64 ck,vd,vf],.int .i64 b] wx fun e w'=>e=.returned (.tuple #[.float .f64 Y,.int .i64 E])∧Below wx.heap.size wx w')) :
  Calls Tryz.prog 16 #[.agg #[.int .i64 base,.int .i64 ck,vd,vf],.int .i64 kind,.agg #[.int .i64 W,v],.int .i64 a,.int .i64 b] w fun e w'=>e=.returned (.tuple #[.float .f64 0,.int .i64 E])∧Below w.heap.size w w':=by
 have HB:=hideS (cJ w base ck W vd vf v 25)
 have d1:(E !=0)=true:=bne_iff_ne.2 hE
 clear hE
 go_enter Tryz.func16,Tryz.ntmps16
 go_wp2_with fail
 refine (HX.out _ HB.out.bl).mono ?_
 rintro e w1 ⟨rfl,hb1⟩
 have HB1:=hideS (HB.out.step hb1)
 clear hb1 HB HX
 have t0:=HB1.out.t0
 have t1:=HB1.out.t1
 have t2:=HB1.out.t2
 have t3:=HB1.out.t3
 have k0:=HB1.out.k0
 have k1:=HB1.out.k1
 go_wp2_with fail
 refine (HX2.out _ HB1.out.bl).mono ?_
 rintro e w2 ⟨rfl,hb2⟩
 have HB2:=hideS (HB1.out.step hb2)
 clear t0 t1 t2 t3 k0 k1 hb2 HB1 HX2
 have t0:=HB2.out.t0
 have t1:=HB2.out.t1
 have t2:=HB2.out.t2
 have t3:=HB2.out.t3
 have k0:=HB2.out.k0
 have k1:=HB2.out.k1
 go_wp2_with fail
 go_ret2
 exact⟨rfl,HB2.out.bl⟩
set_option maxRecDepth 20000 in
set_option maxHeartbeats 1600000 in
theorem vj (base ck kind W a b:Int) (vd vf v:Value) (E:Int) (X Y T:Nat) (w:World) (hE:E≠0) (HX:Hid (∀ wx,Below w.heap.size w wx→Calls Tryz.prog 15 #[.agg #[.int .i64 base,.int .i64 ck,vd,vf],.int .i64 a] wx fun e w'=>e=.returned (.tuple #[.float .f64 X,.int .i64 0])∧Below wx.heap.size wx w')) (HX2:Hid (∀ wx,Below w.heap.size w wx→Calls Tryz.prog 15 #[.agg #[.int .i64 base,.int .i64 ck,vd,vf],.int .i64 b] wx fun e w'=>e=.returned (.tuple #[.float .f64 Y,.int .i64 0])∧Below wx.heap.size wx w')) (HY:Hid (∀ wx,Below w.heap.size w wx→Calls Tryz.prog 35 #[.int .i64 kind,.agg #[.int .i64 W,v],.int .i64 a,.int .i64 b] wx fun e w'=>e=.returned (.tuple #[.float .f64 T,.int .i64 E])∧Below wx.heap.size wx w')) :
  Calls Tryz.prog 16 #[.agg #[.int .i64 base,.int .i64 ck,vd,vf],.int .i64 kind,.agg #[.int .i64 W,v],.int .i64 a,.int .i64 b] w fun e w'=>e=.returned (.tuple #[.float .f64 0,.int .i64 E])∧Below w.heap.size w w':=by
 have HB:=hideS (cJ w base ck W vd vf v 25)
 have d1:(E !=0)=true:=bne_iff_ne.2 hE
 clear hE
 go_enter Tryz.func16,Tryz.ntmps16
 go_wp2_with fail
 refine (HX.out _ HB.out.bl).mono ?_
 rintro e w1 ⟨rfl,hb1⟩
 have HB1:=hideS (HB.out.step hb1)
 clear hb1 HB HX
 have t0:=HB1.out.t0
 have t1:=HB1.out.t1
 have t2:=HB1.out.t2
 have t3:=HB1.out.t3
 have k0:=HB1.out.k0
 have k1:=HB1.out.k1
 go_wp2_with fail
 refine (HX2.out _ HB1.out.bl).mono ?_
 rintro e w2 ⟨rfl,hb2⟩
 have HB2:=hideS (HB1.out.step hb2)
 clear t0 t1 t2 t3 k0 k1 hb2 HB1 HX2
 have t0:=HB2.out.t0
 have t1:=HB2.out.t1
 have t2:=HB2.out.t2
 have t3:=HB2.out.t3
 have k0:=HB2.out.k0
 have k1:=HB2.out.k1
 go_wp2_with fail
 refine (HY.out _ HB2.out.bl).mono ?_
 rintro e w3 ⟨rfl,hb3⟩
 have HB3:=hideS (HB2.out.step hb3)
 clear t0 t1 t2 t3 k0 k1 hb3 HB2 HY
 have t0:=HB3.out.t0
 have t1:=HB3.out.t1
 have t2:=HB3.out.t2
 have t3:=HB3.out.t3
 have k0:=HB3.out.k0
 have k1:=HB3.out.k1
 go_wp2_with fail
 go_ret2
 exact⟨rfl,HB3.out.bl⟩
set_option maxRecDepth 20000 in
set_option maxHeartbeats 1600000 in
theorem lM (base ck kind W a b:Int) (vd vf v:Value) (E:Int) (X Y T F:Nat) (w:World) (HX:Hid (∀ wx,Below w.heap.size w wx→Calls Tryz.prog 15 #[.agg #[.int .i64 base,.int .i64 ck,vd,vf],.int .i64 a] wx fun e w'=>e=.returned (.tuple #[.float .f64 X,.int .i64 0])∧Below wx.heap.size wx w')) (HX2:Hid (∀ wx,Below w.heap.size w wx→Calls Tryz.prog 15 #[.agg #[.int .i64 base,.int .i64 ck,vd,vf],.int .i64 b] wx fun e w'=>e=.returned (.tuple #[.float .f64 Y,.int .i64 0])∧Below wx.heap.size wx w')) (HY:Hid (∀ wx,Below w.heap.size w wx→Calls Tryz.prog 35 #[.int .i64 kind,.agg #[.int .i64 W,v],.int .i64 a,.int .i64 b] wx fun e w'=>e=.returned (.tuple #[.float .f64 T,.int .i64 0])∧Below wx.heap.size wx w')) (HR:Hid (∀ wx,Below w.heap.size w wx→Calls Tryz.prog 36 #[.float .f64 X,.float .f64 Y,.float .f64 T] wx fun e w'=>e=.returned (.tuple #[.float .f64 F,.int .i64 E])∧Below wx.heap.size wx w')) :
  Calls Tryz.prog 16 #[.agg #[.int .i64 base,.int .i64 ck,vd,vf],.int .i64 kind,.agg #[.int .i64 W,v],.int .i64 a,.int .i64 b] w fun e w'=>e=.returned (.tuple #[.float .f64 F,.int .i64 E])∧Below w.heap.size w w':=by
 have HB:=hideS (cJ w base ck W vd vf v 25)
 go_enter Tryz.func16,Tryz.ntmps16
 go_wp2_with fail
 refine (HX.out _ HB.out.bl).mono ?_
 rintro e w1 ⟨rfl,hb1⟩
 have HB1:=hideS (HB.out.step hb1)
 clear hb1 HB HX
 have t0:=HB1.out.t0
 have t1:=HB1.out.t1
 have t2:=HB1.out.t2
 have t3:=HB1.out.t3
 have k0:=HB1.out.k0
 have k1:=HB1.out.k1
 go_wp2_with fail
 refine (HX2.out _ HB1.out.bl).mono ?_
 rintro e w2 ⟨rfl,hb2⟩
 have HB2:=hideS (HB1.out.step hb2)
 clear t0 t1 t2 t3 k0 k1 hb2 HB1 HX2
 have t0:=HB2.out.t0
 have t1:=HB2.out.t1
 have t2:=HB2.out.t2
 have t3:=HB2.out.t3
 have k0:=HB2.out.k0
 have k1:=HB2.out.k1
 go_wp2_with fail
 refine (HY.out _ HB2.out.bl).mono ?_
 rintro e w3 ⟨rfl,hb3⟩
 have HB3:=hideS (HB2.out.step hb3)
 clear t0 t1 t2 t3 k0 k1 hb3 HB2 HY
 have t0:=HB3.out.t0
 have t1:=HB3.out.t1
 have t2:=HB3.out.t2
 have t3:=HB3.out.t3
 have k0:=HB3.out.k0
 have k1:=HB3.out.k1
 go_wp2_with fail
 refine (HR.out _ HB3.out.bl).mono ?_
 rintro e w4 ⟨rfl,hb4⟩
 have HB4:=hideS (HB3.out.step hb4)
 clear t0 t1 t2 t3 k0 k1 hb4 HB3 HR
 have t0:=HB4.out.t0
 have t1:=HB4.out.t1
 have t2:=HB4.out.t2
 have t3:=HB4.out.t3
 have k0:=HB4.out.k0
 have k1:=HB4.out.k1
 go_wp2_with fail
 go_ret2
 exact⟨rfl,HB4.out.bl⟩
set_option maxRecDepth 20000 in
set_option maxHeartbeats 1600000 in
theorem Fc (base ck rates kind W b:Int) (vd vf v:Value) (E:Int) (X:Nat) (w:World) (hE:E≠0) (HX:Hid (∀ wx,Below w.heap.size w wx→Calls Tryz.prog 15 #[.agg #[.int .i64 base,.int .i64 ck,vd,vf],.int .i64 b] wx fun e w'=>e=.returned (.tuple #[.float .f64 X,.int .i64 E])∧Below wx.heap.size wx w')) :
  Calls Tryz.prog 17 #[.agg #[.int .i64 base,.int .i64 ck,vd,vf],.int .i64 rates,.int .i64 kind,.agg #[.int .i64 W,v],.int .i64 b] w fun e w'=>e=.returned (.tuple #[.float .f64 0,.int .i64 E])∧Below w.heap.size w w':=by
 have HB:=hideS (cJ w base ck W vd vf v 25)
 have d1:(E !=0)=true:=bne_iff_ne.2 hE
 clear hE
 go_enter Tryz.func17,Tryz.ntmps17
 go_wp2_with fail
 refine (HX.out _ HB.out.bl).mono ?_
 rintro e w1 ⟨rfl,hb1⟩
 have HB1:=hideS (HB.out.step hb1)
 clear hb1 HB HX
 have t0:=HB1.out.t0
 have t1:=HB1.out.t1
 have t2:=HB1.out.t2
 have t3:=HB1.out.t3
 have k0:=HB1.out.k0
 have k1:=HB1.out.k1
 go_wp2_with fail
 go_ret2
 exact⟨rfl,HB1.out.bl⟩
set_option maxRecDepth 20000 in
set_option maxHeartbeats 1600000 in
theorem Fd (base ck rates kind W b:Int) (vd vf v:Value) (E:Int) (X T:Nat) (w:World) (hE:E≠0) (HX:Hid (∀ wx,Below w.heap.size w wx→Calls Tryz.prog 15 #[.agg #[.int .i64 base,.int .i64 ck,vd,vf],.int .i64 b] wx fun e w'=>e=.returned (.tuple #[.float .f64 X,.int .i64 0])∧Below wx.heap.size wx w')) (HY:Hid (∀ wx,Below w.heap.size w wx→Calls Tryz.prog 35 #[.int .i64 kind,.agg #[.int .i64 W,v],.int .i64 base,.int .i64 b] wx fun e w'=>e=.returned (.tuple #[.float .f64 T,.int .i64 E])∧Below wx.heap.size wx w')) :
  Calls Tryz.prog 17 #[.agg #[.int .i64 base,.int .i64 ck,vd,vf],.int .i64 rates,.int .i64 kind,.agg #[.int .i64 W,v],.int .i64 b] w fun e w'=>e=.returned (.tuple #[.float .f64 0,.int .i64 E])∧Below w.heap.size w w':=by
 have HB:=hideS (cJ w base ck W vd vf v 25)
 have d1:(E !=0)=true:=bne_iff_ne.2 hE
 clear hE
 go_enter Tryz.func17,Tryz.ntmps17
 go_wp2_with fail
 refine (HX.out _ HB.out.bl).mono ?_
 rintro e w1 ⟨rfl,hb1⟩
 have HB1:=hideS (HB.out.step hb1)
 clear hb1 HB HX
 have t0:=HB1.out.t0
 have t1:=HB1.out.t1
 have t2:=HB1.out.t2
 have t3:=HB1.out.t3
 have k0:=HB1.out.k0
 have k1:=HB1.out.k1
 go_wp2_with fail
 refine (HY.out _ HB1.out.bl).mono ?_
 rintro e w2 ⟨rfl,hb2⟩
 have HB2:=hideS (HB1.out.step hb2)
 clear t0 t1 t2 t3 k0 k1 hb2 HB1 HY
 have t0:=HB2.out.t0
 have t1:=HB2.out.t1
 have t2:=HB2.out.t2
 have t3:=HB2.out.t3
 have k0:=HB2.out.k0
 have k1:=HB2.out.k1
 go_wp2_with fail
 go_ret2
 exact⟨rfl,HB2.out.bl⟩
set_option maxRecDepth 20000 in
set_option maxHeartbeats 1600000 in
theorem Fe (base ck rates kind W b:Int) (vd vf v:Value) (E:Int) (X T F:Nat) (w:World) (HX:Hid (∀ wx,Below w.heap.size w wx→Calls Tryz.prog 15 #[.agg #[.int .i64 base,.int .i64 ck,vd,vf],.int .i64 b] wx fun e w'=>e=.returned (.tuple #[.float .f64 X,.int .i64 0])∧Below wx.heap.size wx w')) (HY:Hid (∀ wx,Below w.heap.size w wx→Calls Tryz.prog 35 #[.int .i64 kind,.agg #[.int .i64 W,v],.int .i64 base,.int .i64 b] wx fun e w'=>e=.returned (.tuple #[.float .f64 T,.int .i64 0])∧Below wx.heap.size wx w')) (HR:Hid (∀ wx,Below w.heap.size w wx→Calls Tryz.prog 37 #[.int .i64 rates,.float .f64 X,.float .f64 T] wx fun e w'=>e=.returned (.tuple #[.float .f64 F,.int .i64 E])∧Below wx.heap.size wx w')) :
  Calls Tryz.prog 17 #[.agg #[.int .i64 base,.int .i64 ck,vd,vf],.int .i64 rates,.int .i64 kind,.agg #[.int .i64 W,v],.int .i64 b] w fun e w'=>e=.returned (.tuple #[.float .f64 F,.int .i64 E])∧Below w.heap.size w w':=by
 have HB:=hideS (cJ w base ck W vd vf v 25)
 go_enter Tryz.func17,Tryz.ntmps17
 go_wp2_with fail
 refine (HX.out _ HB.out.bl).mono ?_
 rintro e w1 ⟨rfl,hb1⟩
 have HB1:=hideS (HB.out.step hb1)
 clear hb1 HB HX
 have t0:=HB1.out.t0
 have t1:=HB1.out.t1
 have t2:=HB1.out.t2
 have t3:=HB1.out.t3
 have k0:=HB1.out.k0
 have k1:=HB1.out.k1
 go_wp2_with fail
 refine (HY.out _ HB1.out.bl).mono ?_
 rintro e w2 ⟨rfl,hb2⟩
 have HB2:=hideS (HB1.out.step hb2)
 clear t0 t1 t2 t3 k0 k1 hb2 HB1 HY
 have t0:=HB2.out.t0
 have t1:=HB2.out.t1
 have t2:=HB2.out.t2
 have t3:=HB2.out.t3
 have k0:=HB2.out.k0
 have k1:=HB2.out.k1
 go_wp2_with fail
 refine (HR.out _ HB2.out.bl).mono ?_
 rintro e w3 ⟨rfl,hb3⟩
 have HB3:=hideS (HB2.out.step hb3)
 clear t0 t1 t2 t3 k0 k1 hb3 HB2 HR
 have t0:=HB3.out.t0
 have t1:=HB3.out.t1
 have t2:=HB3.out.t2
 have t3:=HB3.out.t3
 have k0:=HB3.out.k0
 have k1:=HB3.out.k1
 go_wp2_with fail
 go_ret2
 exact⟨rfl,HB3.out.bl⟩
set_option maxRecDepth 20000 in
set_option maxHeartbeats 1600000 in
theorem qG (base ck kind W a b:Int) (vd vf v:Value) (E:Int) (X:Nat) (w:World) (hE:E≠0) (HX:Hid (∀ wx,Below w.heap.size w wx→Calls Tryz.prog 23 #[.agg #[.int .i64 base,.int .i64 ck,vd,vf],.int .i64 a] wx fun e w'=>e=.returned (.tuple #[.int .u64 (X:Int),.int .i64 E])∧Below wx.heap.size wx w')) :
  Calls Tryz.prog 24 #[.agg #[.int .i64 base,.int .i64 ck,vd,vf],.int .i64 kind,.agg #[.int .i64 W,v],.int .i64 a,.int .i64 b] w fun e w'=>e=.returned (.tuple #[.int .u64 0,.int .i64 E])∧Below w.heap.size w w':=by
 have HB:=hideS (cJ w base ck W vd vf v 32)
 have d1:(E !=0)=true:=bne_iff_ne.2 hE
 clear hE
 go_enter Tryz.func24,Tryz.ntmps24
 go_wp2_with fail
 refine (HX.out _ HB.out.bl).mono ?_
 rintro e w1 ⟨rfl,hb1⟩
 have HB1:=hideS (HB.out.step hb1)
 clear hb1 HB HX
 have t0:=HB1.out.t0
 have t1:=HB1.out.t1
 have t2:=HB1.out.t2
 have t3:=HB1.out.t3
 have k0:=HB1.out.k0
 have k1:=HB1.out.k1
 go_wp2_with fail
 go_ret2
 exact⟨rfl,HB1.out.bl⟩
set_option maxRecDepth 20000 in
set_option maxHeartbeats 1600000 in
theorem qH (base ck kind W a b:Int) (vd vf v:Value) (E:Int) (X Y:Nat) (w:World) (hE:E≠0) (HX:Hid (∀ wx,Below w.heap.size w wx→Calls Tryz.prog 23 #[.agg #[.int .i64 base,.int .i64 ck,vd,vf],.int .i64 a] wx fun e w'=>e=.returned (.tuple #[.int .u64 (X:Int),.int .i64 0])∧Below wx.heap.size wx w')) (HX2:Hid (∀ wx,Below w.heap.size w wx→Calls Tryz.prog 23 #[.agg #[.int .i64 base,.int .i64 ck,vd,vf],.int .i64 b] wx fun e w'=>e=.returned (.tuple #[.int .u64 (Y:Int),.int .i64 E])∧Below wx.heap.size wx w')) :
  Calls Tryz.prog 24 #[.agg #[.int .i64 base,.int .i64 ck,vd,vf],.int .i64 kind,.agg #[.int .i64 W,v],.int .i64 a,.int .i64 b] w fun e w'=>e=.returned (.tuple #[.int .u64 0,.int .i64 E])∧Below w.heap.size w w':=by
 have HB:=hideS (cJ w base ck W vd vf v 32)
 have d1:(E !=0)=true:=bne_iff_ne.2 hE
 clear hE
 go_enter Tryz.func24,Tryz.ntmps24
 go_wp2_with fail
 refine (HX.out _ HB.out.bl).mono ?_
 rintro e w1 ⟨rfl,hb1⟩
 have HB1:=hideS (HB.out.step hb1)
 clear hb1 HB HX
 have t0:=HB1.out.t0
 have t1:=HB1.out.t1
 have t2:=HB1.out.t2
 have t3:=HB1.out.t3
 have k0:=HB1.out.k0
 have k1:=HB1.out.k1
 go_wp2_with fail
 refine (HX2.out _ HB1.out.bl).mono ?_
 rintro e w2 ⟨rfl,hb2⟩
 have HB2:=hideS (HB1.out.step hb2)
 clear t0 t1 t2 t3 k0 k1 hb2 HB1 HX2
 have t0:=HB2.out.t0
 have t1:=HB2.out.t1
 have t2:=HB2.out.t2
 have t3:=HB2.out.t3
 have k0:=HB2.out.k0
 have k1:=HB2.out.k1
 go_wp2_with fail
 go_ret2
 exact⟨rfl,HB2.out.bl⟩
set_option maxRecDepth 20000 in
set_option maxHeartbeats 1600000 in
theorem qI (base ck kind W a b:Int) (vd vf v:Value) (E:Int) (X Y T:Nat) (w:World) (hE:E≠0) (HX:Hid (∀ wx,Below w.heap.size w wx→Calls Tryz.prog 23 #[.agg #[.int .i64 base,.int .i64 ck,vd,vf],.int .i64 a] wx fun e w'=>e=.returned (.tuple #[.int .u64 (X:Int),.int .i64 0])∧Below wx.heap.size wx w')) (HX2:Hid (∀ wx,Below w.heap.size w wx→Calls Tryz.prog 23 #[.agg #[.int .i64 base,.int .i64 ck,vd,vf],.int .i64 b] wx fun e w'=>e=.returned (.tuple #[.int .u64 (Y:Int),.int .i64 0])∧Below wx.heap.size wx w')) (HY:Hid (∀ wx,Below w.heap.size w wx→Calls Tryz.prog 42 #[.int .i64 kind,.agg #[.int .i64 W,v],.int .i64 a,.int .i64 b] wx fun e w'=>e=.returned (.tuple #[.int .u64 (T:Int),.int .i64 E])∧Below wx.heap.size wx w')) :
  Calls Tryz.prog 24 #[.agg #[.int .i64 base,.int .i64 ck,vd,vf],.int .i64 kind,.agg #[.int .i64 W,v],.int .i64 a,.int .i64 b] w fun e w'=>e=.returned (.tuple #[.int .u64 0,.int .i64 E])∧Below w.heap.size w w':=by
 have HB:=hideS (cJ w base ck W vd vf v 32)
 have d1:(E !=0)=true:=bne_iff_ne.2 hE
 clear hE
 go_enter Tryz.func24,Tryz.ntmps24
 go_wp2_with fail
 refine (HX.out _ HB.out.bl).mono ?_
 rintro e w1 ⟨rfl,hb1⟩
 have HB1:=hideS (HB.out.step hb1)
 clear hb1 HB HX
 have t0:=HB1.out.t0
 have t1:=HB1.out.t1
 have t2:=HB1.out.t2
 have t3:=HB1.out.t3
 have k0:=HB1.out.k0
 have k1:=HB1.out.k1
 go_wp2_with fail
 refine (HX2.out _ HB1.out.bl).mono ?_
 rintro e w2 ⟨rfl,hb2⟩
 have HB2:=hideS (HB1.out.step hb2)
 clear t0 t1 t2 t3 k0 k1 hb2 HB1 HX2
 have t0:=HB2.out.t0
 have t1:=HB2.out.t1
 have t2:=HB2.out.t2
 have t3:=HB2.out.t3
 have k0:=HB2.out.k0
 have k1:=HB2.out.k1
 go_wp2_with fail
 refine (HY.out _ HB2.out.bl).mono ?_
 rintro e w3 ⟨rfl,hb3⟩
 have HB3:=hideS (HB2.out.step hb3)
 clear t0 t1 t2 t3 k0 k1 hb3 HB2 HY
 have t0:=HB3.out.t0
 have t1:=HB3.out.t1
 have t2:=HB3.out.t2
 have t3:=HB3.out.t3
 have k0:=HB3.out.k0
 have k1:=HB3.out.k1
 go_wp2_with fail
 go_ret2
 exact⟨rfl,HB3.out.bl⟩
set_option maxRecDepth 20000 in
set_option maxHeartbeats 1600000 in
theorem qJ (base ck kind W a b:Int) (vd vf v:Value) (E:Int) (X Y T F:Nat) (w:World) (HX:Hid (∀ wx,Below w.heap.size w wx→Calls Tryz.prog 23 #[.agg #[.int .i64 base,.int .i64 ck,vd,vf],.int .i64 a] wx fun e w'=>e=.returned (.tuple #[.int .u64 (X:Int),.int .i64 0])∧Below wx.heap.size wx w')) (HX2:Hid (∀ wx,Below w.heap.size w wx→Calls Tryz.prog 23 #[.agg #[.int .i64 base,.int .i64 ck,vd,vf],.int .i64 b] wx fun e w'=>e=.returned (.tuple #[.int .u64 (Y:Int),.int .i64 0])∧Below wx.heap.size wx w')) (HY:Hid (∀ wx,Below w.heap.size w wx→Calls Tryz.prog 42 #[.int .i64 kind,.agg #[.int .i64 W,v],.int .i64 a,.int .i64 b] wx fun e w'=>e=.returned (.tuple #[.int .u64 (T:Int),.int .i64 0])∧Below wx.heap.size wx w')) (HR:Hid (∀ wx,Below w.heap.size w wx→Calls Tryz.prog 43 #[.int .u64 (X:Int),.int .u64 (Y:Int),.int .u64 (T:Int)] wx fun e w'=>e=.returned (.tuple #[.int .u64 (F:Int),.int .i64 E])∧Below wx.heap.size wx w')) :
  Calls Tryz.prog 24 #[.agg #[.int .i64 base,.int .i64 ck,vd,vf],.int .i64 kind,.agg #[.int .i64 W,v],.int .i64 a,.int .i64 b] w fun e w'=>e=.returned (.tuple #[.int .u64 (F:Int),.int .i64 E])∧Below w.heap.size w w':=by
 have HB:=hideS (cJ w base ck W vd vf v 32)
 go_enter Tryz.func24,Tryz.ntmps24
 go_wp2_with fail
 refine (HX.out _ HB.out.bl).mono ?_
 rintro e w1 ⟨rfl,hb1⟩
 have HB1:=hideS (HB.out.step hb1)
 clear hb1 HB HX
 have t0:=HB1.out.t0
 have t1:=HB1.out.t1
 have t2:=HB1.out.t2
 have t3:=HB1.out.t3
 have k0:=HB1.out.k0
 have k1:=HB1.out.k1
 go_wp2_with fail
 refine (HX2.out _ HB1.out.bl).mono ?_
 rintro e w2 ⟨rfl,hb2⟩
 have HB2:=hideS (HB1.out.step hb2)
 clear t0 t1 t2 t3 k0 k1 hb2 HB1 HX2
 have t0:=HB2.out.t0
 have t1:=HB2.out.t1
 have t2:=HB2.out.t2
 have t3:=HB2.out.t3
 have k0:=HB2.out.k0
 have k1:=HB2.out.k1
 go_wp2_with fail
 refine (HY.out _ HB2.out.bl).mono ?_
 rintro e w3 ⟨rfl,hb3⟩
 have HB3:=hideS (HB2.out.step hb3)
 clear t0 t1 t2 t3 k0 k1 hb3 HB2 HY
 have t0:=HB3.out.t0
 have t1:=HB3.out.t1
 have t2:=HB3.out.t2
 have t3:=HB3.out.t3
 have k0:=HB3.out.k0
 have k1:=HB3.out.k1
 go_wp2_with fail
 refine (HR.out _ HB3.out.bl).mono ?_
 rintro e w4 ⟨rfl,hb4⟩
 have HB4:=hideS (HB3.out.step hb4)
 clear t0 t1 t2 t3 k0 k1 hb4 HB3 HR
 have t0:=HB4.out.t0
 have t1:=HB4.out.t1
 have t2:=HB4.out.t2
 have t3:=HB4.out.t3
 have k0:=HB4.out.k0
 have k1:=HB4.out.k1
 go_wp2_with fail
 go_ret2
 exact⟨rfl,HB4.out.bl⟩
set_option maxRecDepth 20000 in
set_option maxHeartbeats 1600000 in
theorem zb (base ck rates kind W b:Int) (vd vf v:Value) (E:Int) (X:Nat) (w:World) (hE:E≠0) (HX:Hid (∀ wx,Below w.heap.size w wx→Calls Tryz.prog 23 #[.agg #[.int .i64 base,.int .i64 ck,vd,vf],.int .i64 b] wx fun e w'=>e=.returned (.tuple #[.int .u64 (X:Int),.int .i64 E])∧Below wx.heap.size wx w')) :
  Calls Tryz.prog 25 #[.agg #[.int .i64 base,.int .i64 ck,vd,vf],.int .i64 rates,.int .i64 kind,.agg #[.int .i64 W,v],.int .i64 b] w fun e w'=>e=.returned (.tuple #[.int .u64 0,.int .i64 E])∧Below w.heap.size w w':=by
 have HB:=hideS (cJ w base ck W vd vf v 32)
 have d1:(E !=0)=true:=bne_iff_ne.2 hE
 clear hE
 go_enter Tryz.func25,Tryz.ntmps25
 go_wp2_with fail
 refine (HX.out _ HB.out.bl).mono ?_
 rintro e w1 ⟨rfl,hb1⟩
 have HB1:=hideS (HB.out.step hb1)
 clear hb1 HB HX
 have t0:=HB1.out.t0
 have t1:=HB1.out.t1
 have t2:=HB1.out.t2
 have t3:=HB1.out.t3
 have k0:=HB1.out.k0
 have k1:=HB1.out.k1
 go_wp2_with fail
 go_ret2
 exact⟨rfl,HB1.out.bl⟩
set_option maxRecDepth 20000 in
set_option maxHeartbeats 1600000 in
theorem zc (base ck rates kind W b:Int) (vd vf v:Value) (E:Int) (X T:Nat) (w:World) (hE:E≠0) (HX:Hid (∀ wx,Below w.heap.size w wx→Calls Tryz.prog 23 #[.agg #[.int .i64 base,.int .i64 ck,vd,vf],.int .i64 b] wx fun e w'=>e=.returned (.tuple #[.int .u64 (X:Int),.int .i64 0])∧Below wx.heap.size wx w')) (HY:Hid (∀ wx,Below w.heap.size w wx→Calls Tryz.prog 42 #[.int .i64 kind,.agg #[.int .i64 W,v],.int .i64 base,.int .i64 b] wx fun e w'=>e=.returned (.tuple #[.int .u64 (T:Int),.int .i64 E])∧Below wx.heap.size wx w')) :
  Calls Tryz.prog 25 #[.agg #[.int .i64 base,.int .i64 ck,vd,vf],.int .i64 rates,.int .i64 kind,.agg #[.int .i64 W,v],.int .i64 b] w fun e w'=>e=.returned (.tuple #[.int .u64 0,.int .i64 E])∧Below w.heap.size w w':=by
 have HB:=hideS (cJ w base ck W vd vf v 32)
 have d1:(E !=0)=true:=bne_iff_ne.2 hE
 clear hE
 go_enter Tryz.func25,Tryz.ntmps25
 go_wp2_with fail
 refine (HX.out _ HB.out.bl).mono ?_
 rintro e w1 ⟨rfl,hb1⟩
 have HB1:=hideS (HB.out.step hb1)
 clear hb1 HB HX
 have t0:=HB1.out.t0
 have t1:=HB1.out.t1
 have t2:=HB1.out.t2
 have t3:=HB1.out.t3
 have k0:=HB1.out.k0
 have k1:=HB1.out.k1
 go_wp2_with fail
 refine (HY.out _ HB1.out.bl).mono ?_
 rintro e w2 ⟨rfl,hb2⟩
 have HB2:=hideS (HB1.out.step hb2)
 clear t0 t1 t2 t3 k0 k1 hb2 HB1 HY
 have t0:=HB2.out.t0
 have t1:=HB2.out.t1
 have t2:=HB2.out.t2
 have t3:=HB2.out.t3
 have k0:=HB2.out.k0
 have k1:=HB2.out.k1
 go_wp2_with fail
 go_ret2
 exact⟨rfl,HB2.out.bl⟩
set_option maxRecDepth 20000 in
set_option maxHeartbeats 1600000 in
theorem zd (base ck rates kind W b:Int) (vd vf v:Value) (E:Int) (X T F:Nat) (w:World) (HX:Hid (∀ wx,Below w.heap.size w wx→Calls Tryz.prog 23 #[.agg #[.int .i64 base,.int .i64 ck,vd,vf],.int .i64 b] wx fun e w'=>e=.returned (.tuple #[.int .u64 (X:Int),.int .i64 0])∧Below wx.heap.size wx w')) (HY:Hid (∀ wx,Below w.heap.size w wx→Calls Tryz.prog 42 #[.int .i64 kind,.agg #[.int .i64 W,v],.int .i64 base,.int .i64 b] wx fun e w'=>e=.returned (.tuple #[.int .u64 (T:Int),.int .i64 0])∧Below wx.heap.size wx w')) (HR:Hid (∀ wx,Below w.heap.size w wx→Calls Tryz.prog 44 #[.int .i64 rates,.int .u64 (X:Int),.int .u64 (T:Int)] wx fun e w'=>e=.returned (.tuple #[.int .u64 (F:Int),.int .i64 E])∧Below wx.heap.size wx w')) :
  Calls Tryz.prog 25 #[.agg #[.int .i64 base,.int .i64 ck,vd,vf],.int .i64 rates,.int .i64 kind,.agg #[.int .i64 W,v],.int .i64 b] w fun e w'=>e=.returned (.tuple #[.int .u64 (F:Int),.int .i64 E])∧Below w.heap.size w w':=by
 have HB:=hideS (cJ w base ck W vd vf v 32)
 go_enter Tryz.func25,Tryz.ntmps25
 go_wp2_with fail
 refine (HX.out _ HB.out.bl).mono ?_
 rintro e w1 ⟨rfl,hb1⟩
 have HB1:=hideS (HB.out.step hb1)
 clear hb1 HB HX
 have t0:=HB1.out.t0
 have t1:=HB1.out.t1
 have t2:=HB1.out.t2
 have t3:=HB1.out.t3
 have k0:=HB1.out.k0
 have k1:=HB1.out.k1
 go_wp2_with fail
 refine (HY.out _ HB1.out.bl).mono ?_
 rintro e w2 ⟨rfl,hb2⟩
 have HB2:=hideS (HB1.out.step hb2)
 clear t0 t1 t2 t3 k0 k1 hb2 HB1 HY
 have t0:=HB2.out.t0
 have t1:=HB2.out.t1
 have t2:=HB2.out.t2
 have t3:=HB2.out.t3
 have k0:=HB2.out.k0
 have k1:=HB2.out.k1
 go_wp2_with fail
 refine (HR.out _ HB2.out.bl).mono ?_
 rintro e w3 ⟨rfl,hb3⟩
 have HB3:=hideS (HB2.out.step hb3)
 clear t0 t1 t2 t3 k0 k1 hb3 HB2 HR
 have t0:=HB3.out.t0
 have t1:=HB3.out.t1
 have t2:=HB3.out.t2
 have t3:=HB3.out.t3
 have k0:=HB3.out.k0
 have k1:=HB3.out.k1
 go_wp2_with fail
 go_ret2
 exact⟨rfl,HB3.out.bl⟩
end Go.Proofs.YtcmbfflemoccmaaGreat
