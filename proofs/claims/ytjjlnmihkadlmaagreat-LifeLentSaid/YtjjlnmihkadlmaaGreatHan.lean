/-  -/
import Derived.Test.YtjjlnmihkadlmaaGreatHam
import Derived.Test.YtjjlnmihkadlmaaGreatHal
import Derived.Test.YtjjlnmihkadlmaaGreatHad
namespace Go.Proofs.YtjjlnmihkadlmaaGreat
open Go.RowKit

set_option maxHeartbeats 400000 in
theorem xv (k h l:Nat) (w:World) (h1:floatBits .mul .f64 k 4604418534311723008=some h) (h2:floatBits .mul .f64 k 4461442080421002358=some l) :
  Calls Tryz.prog 201 #[.float .f64 k] w fun e w'=>e=.returned (.tuple #[.float .f64 h,.float .f64 l])∧w'=w:=by
 have r1:=fun w=>run_float_arith (P:=Tryz.prog) w .mul 54 .f64 _ _ _ h1
 have r2:=fun w=>run_float_arith (P:=Tryz.prog) w .mul 54 .f64 _ _ _ h2
 clear h1 h2
 go_enter Tryz.func201,Tryz.ntmps201
 go_wp2
 go_ret2
 exact⟨rfl,rfl⟩

set_option maxHeartbeats 400000 in
theorem EL (w:World) :
  Calls Tryz.prog 110 #[.int .i64 1] w fun e w'=>e=.returned (.float .f64 9218868437227405312)∧w'=w:=by
 have h2:=bN
 go_enter Tryz.func110,Tryz.ntmps110
 go_wp2
 go_ret
 exact⟨rfl,rfl⟩

set_option maxHeartbeats 400000 in
theorem EM (x:Nat) (w:World) (h:U64 x) (hn:ag x=true) :
  Calls Tryz.prog 194 #[.float .f64 x] w fun e w'=>e=.returned (.float .f64 x)∧w'=w:=by
 have H:=hideS (aU x w h)
 rw [hn] at H
 clear h hn
 go_enter Tryz.func194,Tryz.ntmps194
 go_wp2_with fail
 refine H.out.mono ?_
 rintro e w' ⟨rfl,rfl⟩
 go_wp2_with fail
 go_ret
 exact⟨rfl,rfl⟩

set_option maxHeartbeats 400000 in
theorem Gi (x:Nat) (g e:Bool) (w:World) (h:U64 x) (hn:ag x=false) (hg:(FloatKind.f64.format.order x 4649456441864749056==some .gt)=g) (he:(FloatKind.f64.format.order x 4649456441864749056==some .eq)=e) (hge:(g||e)=true) :
  Calls Tryz.prog 194 #[.float .f64 x] w fun e w'=>e=.returned (.float .f64 9218868437227405312)∧w'=w:=by
 have H:=hideS (aU x w h)
 rw [hn] at H
 clear h hn
 cases g<;>cases e<;>first | (cases hge;done) | skip
 all_goals
  clear hge
  go_enter Tryz.func194,Tryz.ntmps194
  go_wp2_with fail
  refine H.out.mono ?_
  rintro e w' ⟨rfl,rfl⟩
  go_wp2_with fail
  refine (EL _).mono ?_
  rintro e w' ⟨rfl,rfl⟩
  go_wp2_with fail
  go_ret
  exact⟨rfl,rfl⟩

set_option maxHeartbeats 400000 in
theorem Gj (x:Nat) (g e:Bool) (w:World) (h:U64 x) (hn:ag x=false) (hg1:(FloatKind.f64.format.order x 4649456441864749056==some .gt)=false) (he1:(FloatKind.f64.format.order x 4649456441864749056==some .eq)=false)
  (hg:(FloatKind.f64.format.order x 13873145138068324352==some .lt)=g) (he:(FloatKind.f64.format.order x 13873145138068324352==some .eq)=e) (hge:(g||e)=true) :
  Calls Tryz.prog 194 #[.float .f64 x] w fun e w'=>e=.returned (.float .f64 0)∧w'=w:=by
 have H:=hideS (aU x w h)
 rw [hn] at H
 clear h hn
 cases g<;>cases e<;>first | (cases hge;done) | skip
 all_goals
  clear hge
  go_enter Tryz.func194,Tryz.ntmps194
  go_wp2_with fail
  refine H.out.mono ?_
  rintro e w' ⟨rfl,rfl⟩
  go_wp2_with fail
  go_ret
  exact⟨rfl,rfl⟩

set_option maxRecDepth 20000 in
set_option maxHeartbeats 1600000 in
theorem EN (x y t f hi lo d r p:Nat) (k:Int) (w:World) (h:U64 x) (hn:ag x=false) (hg1:(FloatKind.f64.format.order x 4649456441864749056==some .gt)=false) (he1:(FloatKind.f64.format.order x 4649456441864749056==some .eq)=false)
  (hg2:(FloatKind.f64.format.order x 13873145138068324352==some .lt)=false) (he2:(FloatKind.f64.format.order x 13873145138068324352==some .eq)=false)
  (q1:floatBits .mul .f64 x 4609176140021203710=some y) (q2:floatBits .add .f64 y 4602678819172646912=some t) (hf:Hid (∀ w,Calls Tryz.prog 200 #[.float .f64 t] w fun e w'=>e=.returned (.float .f64 f)∧w'=w))
  (q3:floatBits .mul .f64 f 4604418534311723008=some hi) (q4:floatBits .mul .f64 f 4461442080421002358=some lo) (q5:floatBits .sub .f64 x hi=some d) (q6:floatBits .sub .f64 d lo=some r)
  (q7:Hid (aS expL r=some p)) (up:Hid (U64 p)) (q8:floatToIntVal .f64 f .i64=some k) (hk: -2000≤k∧k≤2000) (hsp: -2000≤aP p∧aP p≤2000) (hsm: -9223372036854775808≤aC p∧aC p≤9223372036854775807) :
  Calls Tryz.prog 194 #[.float .f64 x] w fun e w'=>e=.returned (.float .f64 (aG (aC p) (aP p+k)))∧Below w.heap.size w w':=by
 have H:=hideS (aU x w h)
 rw [hn] at H
 have r1:=fun w=>run_float_arith (P:=Tryz.prog) w .mul 54 .f64 _ _ _ q1
 have r2:=fun w=>run_float_arith (P:=Tryz.prog) w .add 54 .f64 _ _ _ q2
 have r5:=fun w=>run_float_arith (P:=Tryz.prog) w .sub 54 .f64 _ _ _ q5
 have r6:=fun w=>run_float_arith (P:=Tryz.prog) w .sub 54 .f64 _ _ _ q6
 have r8:=fun w=>run_convert_float_int (P:=Tryz.prog) w 54 3 .f64 .i64 f k (by kernel_rfl) Tryz.underlying3 q8
 have HL:Hid (∀ w,Calls Tryz.prog 201 #[.float .f64 f] w fun e w'=>e=.returned (.tuple #[.float .f64 hi,.float .f64 lo])∧w'=w):=fun w=>xv f hi lo w q3 q4
 have HSp:Hid (∀ w,Calls Tryz.prog 67 #[.float .f64 p] w fun e w'=>e=.returned (.tuple #[.int .i64 (aC p),.int .i64 (aP p),.bool (aD p)])∧w'=w):=fun w=>dO p p w rfl up.out
 have HJ:Hid (∀ w,Calls Tryz.prog 116 #[.int .i64 (aC p),.int .i64 (aP p+k)] w fun e w'=>e=.returned (.float .f64 (aG (aC p) (aP p+k)))∧∃ n,w'=w.drewN n):=fun w=>bM _ _ w hsm.1 hsm.2
 clear h hn q1 q2 q3 q4 q5 q6 q8 hsm
 generalize aG (aC p) (aP p+k)=res at HJ
 generalize aC p=sm at HJ HSp
 generalize aP p=se at HJ HSp hsp
 generalize aD p=so at HSp
 go_enter Tryz.func194,Tryz.ntmps194
 go_wp2_with fail
 refine (turned H.out).mono ?_
 rintro e w' ⟨rfl,rfl⟩
 clear H
 go_wp2_with fail
 refine (turned (hf.out _)).mono ?_
 rintro e w' ⟨rfl,rfl⟩
 go_wp2_with fail
 refine (turned (HL.out _)).mono ?_
 rintro e w' ⟨rfl,rfl⟩
 go_wp2_with fail
 have HT:=hideS (qB w)
 refine HT.out.mono ?_
 rintro e w1 ⟨rfl,hs,hb⟩
 have HB:=hideS hb
 have HH:Hid (Calls Tryz.prog 202 #[.slice (some ⟨w.heap.size,0,none⟩) 14 14,.float .f64 r] w1 fun e w'=>∃ r',e=.returned (.float .f64 r')∧Ag (aS expL r) r'∧∃ q,w'=w1.drewN q):=lO _ _ _ 14 r 14 expL w1 hs rfl (by decide)
 rw [q7.out] at HH
 clear hs hb HT
 go_wp2_with fail
 refine HH.out.mono ?_
 rintro e w2 ⟨r',rfl,hag,q,rfl⟩
 obtain rfl:=dh hag
 go_wp2_with fail
 refine (turned (HSp.out _)).mono ?_
 rintro e w' ⟨rfl,rfl⟩
 go_wp2_with fail
 refine (HJ.out _).mono ?_
 rintro e w' ⟨rfl,q',rfl⟩
 go_wp2_with fail
 go_ret
 exact⟨rfl,⟨HB.out.os,HB.out.tape,HB.out.output,HB.out.size,HB.out.block⟩⟩
end Go.Proofs.YtjjlnmihkadlmaaGreat
namespace Go.Proofs.YtjjlnmihkadlmaaGreat

theorem jw (b:Nat) (h:decide (b % 9223372036854775808<9218868437227405312)=true):af b:=by unfold af;exact of_decide_eq_true h
theorem et {K:Nat} {g:Int} (hs:Scale K g) {b m p:Nat} (q:Nat) (h0:sB b=false) (hm:mg (b % 9223372036854775808)=m) (hp:pl (b % 9223372036854775808)=p) (hq:q+974=p):vI b=((m*2^q:Nat):Int)*g:=by
 rw [fx,h0]
 unfold sgZ aV V
 rw [if_neg (by decide),hm,hp,Int.natCast_mul,hs.at_ q p hq,Int.natCast_mul,Int.mul_assoc]
theorem qF {K:Nat} {g:Int} (hs:Scale K g):vI 4609176140021203710=1828833234529184396638827839488*g:=by
 rw [et hs (b:=4609176140021203710) 48 (by decide+kernel) (m:=6497320848556798) (by decide+kernel) (p:=1022) (by decide+kernel) rfl];rfl
theorem vG {K:Nat} {g:Int} (hs:Scale K g):vI 4602678819172646912=633825300114114700748351602688*g:=by
 rw [et hs (b:=4602678819172646912) 47 (by decide+kernel) (m:=4503599627370496) (by decide+kernel) (p:=1021) (by decide+kernel) rfl];rfl
theorem vH {K:Nat} {g:Int} (hs:Scale K g):vI 4604418534311723008=878668439241424593572830642176*g:=by
 rw [et hs (b:=4604418534311723008) 47 (by decide+kernel) (m:=6243314766446592) (by decide+kernel) (p:=1021) (by decide+kernel) rfl];rfl
theorem za {K:Nat} {g:Int} (hs:Scale K g):vI 4461442080421002358=241894980045432881152*g:=by
 rw [et hs (b:=4461442080421002358) 15 (by decide+kernel) (m:=7382048951581814) (by decide+kernel) (p:=989) (by decide+kernel) rfl];rfl
theorem jx {K:Nat} {g:Int} (hs:Scale K g) {m:Int} (h1: -9007199254740992≤m) (h2:m≤9007199254740992):vI (fi m)=1267650600228229401496703205376*(m*g)∧af (fi m)∧fi m<18446744073709551616:=by
 obtain⟨a,b,_,d⟩:=lL hs.k h1 h2
 refine⟨?_,b,d⟩
 rw [a,hs.unit,← Int.mul_assoc,Int.mul_comm m,Int.mul_assoc]
theorem qG {x y t:Nat} (hx:af x) (hy:af y) (h0:sB y=false) (ht:floatBits .add .f64 x y=some t):t % 9223372036854775808≠0∨sB t=false:=by
 rw [jg hx hy] at ht
 have e:gl (x / 9223372036854775808 % 2==1) (y / 9223372036854775808 % 2==1) (vI x+vI y)=t:=Option.some.inj ht
 have hy0:(y / 9223372036854775808 % 2==1)=false:=h0
 rw [hy0] at e
 unfold gl at e
 generalize vI x+vI y=T at e
 by_cases hT:T=0
 ·rw [if_pos hT,Bool.and_false,if_neg (by decide)] at e
  right;rw [← e];rfl
 ·left
  rw [if_neg hT,jZ hT] at e
  have h1:=xa (T:=T.natAbs) (r:=1) (k:=0) (by decide) (by rw [show V 1=1 by decide];omega)
  have h2:=gh T.natAbs (-1074)
  have h3:1≤nearR T.natAbs (-1074):=h1
  rw [← e]
  unfold wrd
  generalize nearR T.natAbs (-1074)=r at *
  split<;>omega

theorem vJ {X Y t Q hi lo d r g:Int} (x1: -(945667347770259133516540591210496*g)<X) (x2:X<900031926162042875062659275816960*g)
  (y1: -(1569275433846670190958947355801916604025588861116008628224*g)≤1267650600228229401496703205376*Y - 1828833234529184396638827839488*X) (y2:1267650600228229401496703205376*Y - 1828833234529184396638827839488*X≤1569275433846670190958947355801916604025588861116008628224*g)
  (t1: -(1237940039285380274899124224*g)≤t - (Y+633825300114114700748351602688*g)) (t2:t - (Y+633825300114114700748351602688*g)≤1237940039285380274899124224*g)
  (k1:1267650600228229401496703205376*Q≤t) (k2:t<1267650600228229401496703205376*Q+1267650600228229401496703205376*g)
  (a1: -(1569275433846670190958947355801916604025588861116008628224*g)≤1267650600228229401496703205376*hi - 878668439241424593572830642176*(1267650600228229401496703205376*Q)) (a2:1267650600228229401496703205376*hi - 878668439241424593572830642176*(1267650600228229401496703205376*Q)≤1569275433846670190958947355801916604025588861116008628224*g)
  (b1: -(1569275433846670190958947355801916604025588861116008628224*g)≤1267650600228229401496703205376*lo - 241894980045432881152*(1267650600228229401496703205376*Q)) (b2:1267650600228229401496703205376*lo - 241894980045432881152*(1267650600228229401496703205376*Q)≤1569275433846670190958947355801916604025588861116008628224*g)
  (d1: -(1237940039285380274899124224*g)≤d - (X - hi)) (d2:d - (X - hi)≤1237940039285380274899124224*g)
  (r1: -(1237940039285380274899124224*g)≤r - (d - lo)) (r2:r - (d - lo)≤1237940039285380274899124224*g) :
  -(633825300114114700748351602688*g)≤r∧r≤633825300114114700748351602688*g:=by
 constructor<;>omega

theorem zb {K:Nat} {g:Int} (hs:Scale K g) {x:Nat} (hx:af x) (x1: -(945667347770259133516540591210496*g)<vI x) (x2:vI x<900031926162042875062659275816960*g) :
  ∃ (y t hi lo d r:Nat) (k:Int),floatBits .mul .f64 x 4609176140021203710=some y∧floatBits .add .f64 y 4602678819172646912=some t∧af t∧Ieee.double.write ((Ieee.double.read t).integral .down)=fi k∧k*((2^K:Nat):Int)≤vI t∧vI t<(k+1)*((2^K:Nat):Int)∧-2000≤k∧k≤2000∧
   floatBits .mul .f64 (fi k) 4604418534311723008=some hi∧floatBits .mul .f64 (fi k) 4461442080421002358=some lo∧floatBits .sub .f64 x hi=some d∧floatBits .sub .f64 d lo=some r∧af r∧r<18446744073709551616∧-(633825300114114700748351602688*g)≤vI r∧vI r≤633825300114114700748351602688*g:=by
 have hg:=hs.pos
 obtain⟨y,y0,yn,_,y1,y2⟩:=mF hs hx (jw 4609176140021203710 (by decide)) (qF hs) (by omega) (by omega)
 have hw:=vG hs
 obtain⟨t,t0,tn,_,t1,t2⟩:=Cq hs yn (jw 4602678819172646912 (by decide)) (by rw [hw];omega) (by rw [hw];omega)
 rw [hw] at t1 t2
 obtain⟨k,k0,k1,k2⟩:=vE hs.k tn (qG yn (jw 4602678819172646912 (by decide)) (by decide+kernel) t0)
 have kk1:=k1
 have kk2:=k2
 rw [hs.unit,← Int.mul_assoc,Int.mul_comm k,Int.mul_assoc] at k1
 rw [hs.unit,Int.add_mul,Int.one_mul,← Int.mul_assoc,Int.mul_comm k,Int.mul_assoc] at k2
 have kb1: -2000≤k:=by
  by_cases h: -2000≤k
  ·exact h
  ·have:=Int.mul_le_mul_of_nonneg_right (show k≤-2001 by omega) (show 0≤g by omega)
   omega
 have kb2:k≤2000:=by
  by_cases h:k≤2000
  ·exact h
  ·have:=Int.mul_le_mul_of_nonneg_right (show 2001≤k by omega) (show 0≤g by omega)
   omega
 have kb3:=Int.mul_le_mul_of_nonneg_right kb1 (show 0≤g by omega)
 have kb4:=Int.mul_le_mul_of_nonneg_right kb2 (show 0≤g by omega)
 obtain⟨f1,fn,_⟩:=jx hs (m:=k) (by omega) (by omega)
 obtain⟨Q,hQ⟩:∃ Q,k*g=Q:=⟨_,rfl⟩
 rw [hQ] at f1 k1 k2 kb3 kb4
 obtain⟨hi,h0,hn,_,a1,a2⟩:=mF hs fn (jw 4604418534311723008 (by decide)) (vH hs) (by rw [f1];omega) (by rw [f1];omega)
 obtain⟨lo,l0,ln,_,b1,b2⟩:=mF hs fn (jw 4461442080421002358 (by decide)) (za hs) (by rw [f1];omega) (by rw [f1];omega)
 rw [f1] at a1 a2 b1 b2
 obtain⟨d,d0,dn,_,d1,d2⟩:=sT hs hx hn (by omega) (by omega)
 obtain⟨r,r0,rn,r64,r1,r2⟩:=sT hs dn ln (by omega) (by omega)
 obtain⟨z1,z2⟩:=vJ x1 x2 y1 y2 t1 t2 k1 k2 a1 a2 b1 b2 d1 d2 r1 r2
 exact⟨y,t,hi,lo,d,r,k,y0,t0,tn,k0,kk1,kk2,kb1,kb2,h0,l0,d0,r0,rn,r64,z1,z2⟩
end Go.Proofs.YtjjlnmihkadlmaaGreat
namespace Go.Proofs.YtjjlnmihkadlmaaGreat
open Go.RowKit

theorem mG {a b A B:Int} (h1: -A≤a) (h2:a≤A) (h3: -B≤b) (h4:b≤B): -(A*B)≤a*b∧a*b≤A*B:=by
 have h5:(a*b).natAbs≤(A*B).natAbs:=by
  rw [Int.natAbs_mul,Int.natAbs_mul]
  exact Nat.mul_le_mul (by omega) (by omega)
 have h6:0≤A*B:=Int.mul_nonneg (by omega) (by omega)
 omega
theorem gV {K:Nat} {g:Int} (hs:Scale K g) (j:Int) (h1: -10<j) (h2:j<10):Rep (1267650600228229401496703205376*(j*g)):=by
 have:=mE (j:=j) (E:=K) (by omega) (by omega) (by have:=hs.k;omega) (by have:=hs.k;omega)
 rw [hs.unit,← Int.mul_assoc,Int.mul_comm j,Int.mul_assoc] at this
 exact this
theorem sU {K:Nat} {g:Int} (hs:Scale K g) {p r:Nat} (hp:af p) (hr:af r) (p1: -(2535301200456458802993406410752*g)≤vI p) (p2:vI p≤2535301200456458802993406410752*g) (r1: -(633825300114114700748351602688*g)≤vI r) (r2:vI r≤633825300114114700748351602688*g) :
  ∃ z,floatBits .mul .f64 p r=some z∧af z∧z<18446744073709551616∧-(1267650600228229401496703205376*g)≤vI z∧vI z≤1267650600228229401496703205376*g:=by
 obtain⟨a,b⟩:=mG p1 p2 r1 r2
 have rA:=gV hs (-1) (by decide) (by decide)
 have rB:=gV hs 1 (by decide) (by decide)
 have e:(2535301200456458802993406410752*g)*(633825300114114700748351602688*g)=1267650600228229401496703205376*g*(1267650600228229401496703205376*g):=by
  rw [show (2535301200456458802993406410752:Int)*g=(1267650600228229401496703205376*g)*2 by omega,Int.mul_assoc (1267650600228229401496703205376*g),show (2:Int)*(633825300114114700748351602688*g)=1267650600228229401496703205376*g by omega]
 rw [e] at a b
 have f1:1267650600228229401496703205376*(-1*g)*((2^K:Nat):Int)≤vI p*vI r:=by
  rw [hs.unit,show (1267650600228229401496703205376:Int)*(-1*g)= -(1267650600228229401496703205376*g) by omega,Int.neg_mul];exact a
 have f2:vI p*vI r≤1267650600228229401496703205376*(1*g)*((2^K:Nat):Int):=by
  rw [hs.unit,Int.one_mul];exact b
 obtain⟨z,z1,z2,z3,z4⟩:=oR hs.k hp hr (uQ rA rB f1 f2)
 have a1:=lM rA f1
 have a2:=jh rB f2
 rw [← z4] at a1 a2
 exact⟨z,z1,z2,z3,by omega,by omega⟩
theorem sV {K:Nat} {g:Int} (hs:Scale K g) {q c:Nat} (hq:af q) (hc:af c) (l:Int) (hl1: -10<l) (hl2:l<10) (t1:1267650600228229401496703205376*(l*g)≤vI q+vI c) (t2:vI q+vI c≤2535301200456458802993406410752*g) :
  ∃ z,floatBits .add .f64 q c=some z∧af z∧z<18446744073709551616∧1267650600228229401496703205376*(l*g)≤vI z∧vI z≤2535301200456458802993406410752*g:=by
 have rA:=gV hs l hl1 hl2
 have rB:=gV hs 2 (by decide) (by decide)
 have f1:1267650600228229401496703205376*(l*g)*((2^0:Nat):Int)≤vI q+vI c:=by rw [show ((2^0:Nat):Int)=1 from rfl,Int.mul_one];exact t1
 have f2:vI q+vI c≤1267650600228229401496703205376*(2*g)*((2^0:Nat):Int):=by rw [show ((2^0:Nat):Int)=1 from rfl,Int.mul_one];omega
 obtain⟨z,z1,z2,z3,z4⟩:=oP hq hc (uQ rA rB f1 f2)
 have a1:=lM rA f1
 have a2:=jh rB f2
 rw [← z4] at a1 a2
 exact⟨z,z1,z2,z3,a1,by omega⟩
theorem oS {K:Nat} {g:Int} (hs:Scale K g):vI 4607182418800017408=1267650600228229401496703205376*g∧af 4607182418800017408:=by
 obtain⟨a,b,_⟩:=jx hs (m:=1) (by decide) (by decide)
 rw [FS] at a b
 rw [Int.one_mul] at a
 exact⟨a,b⟩
theorem sW:∀ i,i<14→expL.getD i 0≤4607182418800017408:=by decide+kernel
theorem oT {K:Nat} {g:Int} (hs:Scale K g) {c:Nat} (h:c≤4607182418800017408):af c∧0≤vI c∧vI c≤1267650600228229401496703205376*g:=by
 have h1:vI c=(V c:Int):=by
  rw [fx];unfold sB aV
  rw [show c / 9223372036854775808 % 2=0 by omega,show c % 9223372036854775808=c by omega];rfl
 have h2:vI 4607182418800017408=(V 4607182418800017408:Int):=by
  rw [fx];unfold sB aV;rfl
 have h3:=xP h
 rw [(oS hs).1] at h2
 refine⟨by unfold af;omega,by omega,by omega⟩
theorem zc {K:Nat} {g:Int} (hs:Scale K g) {r:Nat} (hr:af r) (r1: -(633825300114114700748351602688*g)≤vI r) (r2:vI r≤633825300114114700748351602688*g) :
  ∀ i,i≤12→∃ p,hornAt expL r i=some p∧af p∧-(2535301200456458802993406410752*g)≤vI p∧vI p≤2535301200456458802993406410752*g:=by
 have hg:=hs.pos
 intro i
 induction i with
 | zero=>
  intro _
  obtain⟨a,b,c⟩:=oT hs (sW 13 (by omega))
  exact⟨expL.getD 13 0,rfl,a,by omega,by omega⟩
 | succ i ih=>
  intro hi
  obtain⟨p,e,hp,p1,p2⟩:=ih (by omega)
  obtain⟨q,q0,qn,_,q1,q2⟩:=sU hs hp hr p1 p2 r1 r2
  obtain⟨a,b,c⟩:=oT hs (sW (14 - 2 - i) (by omega))
  obtain⟨z,z0,zn,_,z1,z2⟩:=sV hs qn a (-1) (by decide) (by decide) (by omega) (by omega)
  refine⟨z,?_,zn,by omega,z2⟩
  show el r (hornAt expL r i) (expL.getD (14 - 2 - i) 0)=some z
  rw [e]
  show ((some p).bind fun p=>floatBits .mul .f64 p r).bind _=_
  rw [show ((some p).bind fun p=>floatBits .mul .f64 p r)=some q from q0]
  exact z0
theorem Cr {K:Nat} {g:Int} (hs:Scale K g) {r:Nat} (hr:af r) (r1: -(633825300114114700748351602688*g)≤vI r) (r2:vI r≤633825300114114700748351602688*g) :
  ∃ p,aS expL r=some p∧af p∧p<18446744073709551616∧0≤vI p:=by
 have hg:=hs.pos
 obtain⟨p,e,hp,p1,p2⟩:=zc hs hr r1 r2 12 (by omega)
 obtain⟨q,q0,qn,_,q1,q2⟩:=sU hs hp hr p1 p2 r1 r2
 obtain⟨o1,o2⟩:=oS hs
 obtain⟨z,z0,zn,z64,z1,_⟩:=sV hs qn o2 0 (by decide) (by decide) (by rw [o1];omega) (by rw [o1];omega)
 refine⟨z,?_,zn,z64,by omega⟩
 show el r (hornAt expL r 12) 4607182418800017408=some z
 rw [e]
 show ((some p).bind fun p=>floatBits .mul .f64 p r).bind _=_
 rw [show ((some p).bind fun p=>floatBits .mul .f64 p r)=some q from q0]
 exact z0

theorem Gk {p:Nat} (hn:af p) (h64:p<18446744073709551616) (h0:0≤vI p):0≤aC p∧aC p<9007199254740992∧-2000≤aP p∧aP p≤2000:=by
 have hsz:szI (p:Int)=((p % 9223372036854775808:Nat):Int):=by unfold szI;omega
 have hok:aD (p:Int)=true:=by unfold aD;rw [hsz];unfold af at hn;simp;omega
 have hE: -2000≤aP p∧aP p≤2000:=by
  unfold aP ir
  rw [hsz]
  unfold af at hn
  split
  ·split<;>omega
  ·omega
 unfold aC
 rw [hok,if_pos rfl,hsz]
 obtain⟨r,hr⟩:∃ r,p % 9223372036854775808=r:=⟨_,rfl⟩
 have hm:0≤eB (r:Int)∧eB (r:Int)<9007199254740992:=by unfold eB;split<;>omega
 have hz:sgB (p:Int)=true→r=0:=fun h=>by
  have h1:sB p=true:=by
   unfold sgB at h
   unfold sB
   have:9223372036854775808≤p:=by have:=of_decide_eq_true h;omega
   rw [show p / 9223372036854775808 % 2=1 by omega];rfl
  rw [fx,h1] at h0
  have h2:aV p=0:=by unfold sgZ at h0;simp at h0;omega
  unfold aV at h2
  rw [hr] at h2
  have:=dI (r:=r) (s:=0)
  rw [bu] at this
  exact this.1 h2
 rw [hr]
 by_cases hsg:sgB (p:Int)=true
 ·rw [if_pos hsg,hz hsg]
  refine⟨by decide,by decide,hE.1,hE.2⟩
 ·rw [if_neg hsg]
  exact⟨hm.1,hm.2,hE.1,hE.2⟩
theorem Cs {m e:Int} (h:0≤m):aG m e≤9218868437227405312:=by
 unfold aG
 split
 ·omega
 ·rw [if_neg (by omega)];exact gh _ _

theorem zd:∀ a:Nat,a<64→∀ b:Nat,b<64→floatToIntVal .f64 (fi (((64*a+b:Nat):Int) - 2000)) .i64=some (((64*a+b:Nat):Int) - 2000):=by decide+kernel
theorem Ct {k:Int} (h1: -2000≤k) (h2:k≤2000):floatToIntVal .f64 (fi k) .i64=some k:=by
 have:=zd ((k+2000).toNat / 64) (by omega) ((k+2000).toNat % 64) (by omega)
 rw [show ((64*((k+2000).toNat / 64)+(k+2000).toNat % 64:Nat):Int) - 2000=k by omega] at this
 exact this
theorem EO {m:Int} (h1:0≤m) (h2:m<9007199254740992): -9223372036854775808≤m∧m≤9223372036854775807:=by omega

theorem mH {a b:Nat} (ha:af a) (hb:af b) (ha2:a<18446744073709551616) (hb2:b<18446744073709551616) (h:ae a<ae b):vI a<vI b:=by
 have na:ag (a:Int)=false:=by unfold af at ha;unfold ag szI;rw [decide_eq_false_iff_not];omega
 have nb:ag (b:Int)=false:=by unfold af at hb;unfold ag szI;rw [decide_eq_false_iff_not];omega
 rw [← bK ha2 na,← bK hb2 nb] at h
 have e1:vI a=sgZ (a / 9223372036854775808 % 2==1) (V (a % 9223372036854775808)):=rfl
 have e2:vI b=sgZ (b / 9223372036854775808 % 2==1) (V (b % 9223372036854775808)):=rfl
 rw [e1,e2]
 generalize a % 9223372036854775808=r at *
 generalize b % 9223372036854775808=s at *
 generalize (a / 9223372036854775808 % 2==1)=p at *
 generalize (b / 9223372036854775808 % 2==1)=q at *
 have h1:=cj (r:=r) (s:=s)
 have h2:=cj (r:=s) (s:=r)
 have h3:=cj (r:=0) (s:=s)
 have h4:=cj (r:=0) (s:=r)
 rw [bu] at h3 h4
 unfold sgn at h
 unfold sgZ
 cases p<;>cases q<;>simp only [Bool.false_eq_true,if_true,if_false] at* <;>omega
theorem EP:fi 710=4649456441864749056:=by decide+kernel
theorem Gl:fi (-746)=13873145138068324352:=by decide+kernel
end Go.Proofs.YtjjlnmihkadlmaaGreat
namespace Go.Proofs.YtjjlnmihkadlmaaGreat
open Go.RowKit

set_option maxHeartbeats 400000 in
theorem ET (w:World) :
  Calls Tryz.prog 110 #[.int .i64 (-1)] w fun e w'=>e=.returned (.float .f64 18442240474082181120)∧w'=w:=by
 have h2:=bN
 go_enter Tryz.func110,Tryz.ntmps110
 go_wp2
 go_ret
 exact⟨rfl,rfl⟩
set_option maxHeartbeats 400000 in
theorem sY (w:World) :
  Calls Tryz.prog 111 #[] w fun e w'=>e=.returned (.float .f64 9221120237041090561)∧w'=w:=by
 have h2:=bN
 go_enter Tryz.func111,Tryz.ntmps111
 go_wp2
 go_ret
 exact⟨rfl,rfl⟩
set_option maxHeartbeats 400000 in
theorem fa (x:Nat) (g:Bool) (w:World) (hg:(FloatKind.f64.format.order x 9218868437227405311==some .gt)=g) :
  Calls Tryz.prog 61 #[.float .f64 x,.int .i64 1] w fun e w'=>e=.returned (.bool g)∧w'=w:=by
 go_enter Tryz.func61,Tryz.ntmps61
 go_wp2
 go_ret
 exact⟨rfl,rfl⟩

set_option maxRecDepth 20000 in
set_option maxHeartbeats 800000 in
theorem zh (x m0 m1:Nat) (n e L:Int) (ok g:Bool) (w:World) (hS:Hid (∀ w,Calls Tryz.prog 67 #[.float .f64 x] w fun r w'=>r=.returned (.tuple #[.int .i64 n,.int .i64 e,.bool ok])∧w'=w))
  (hn:0<n∧n<9007199254740992) (he: -2000≤e∧e≤2000) (hL:Hid (∀ w,Calls Tryz.prog 210 #[.int .u64 n] w fun r w'=>r=.returned (.int .i64 L)∧w'=w)) (hL2:0≤L∧L≤64)
  (hJ:Hid (∀ w,Calls Tryz.prog 116 #[.int .i64 n,.int .i64 (1 - L)] w fun r w'=>r=.returned (.float .f64 m0)∧∃ q,w'=w.drewN q))
  (hg:(FloatKind.f64.format.order m0 4609047870845172685==some .gt)=g) (hd:floatBits .quo .f64 m0 4611686018427387904=some m1) :
  Calls Tryz.prog 204 #[.float .f64 x] w fun r w'=>r=.returned (.tuple #[.float .f64 (if g then m1 else m0),.int .i64 (if g then e+L else e+L - 1)])∧∃ q,w'=w.drewN q:=by
 have r1:=fun w=>run_float_arith (P:=Tryz.prog) w .quo 54 .f64 _ _ _ hd
 clear hd
 cases g
 all_goals
  simp only [Bool.false_eq_true,if_true,if_false]
  go_enter Tryz.func204,Tryz.ntmps204
  go_wp2_with fail
  refine (turned (hS.out _)).mono ?_
  rintro r w' ⟨rfl,rfl⟩
  go_wp2_with fail
  refine (turned (hL.out _)).mono ?_
  rintro r w' ⟨rfl,rfl⟩
  go_wp2_with fail
  refine (hJ.out _).mono ?_
  rintro r w' ⟨rfl,q,rfl⟩
  go_wp2_with fail
  go_ret2
  exact⟨rfl,_,rfl⟩

set_option maxHeartbeats 400000 in
theorem Gm (x:Nat) (w:World) (h:U64 x) (hn:ag x=true) :
  Calls Tryz.prog 195 #[.float .f64 x] w fun e w'=>e=.returned (.float .f64 9221120237041090561)∧w'=w:=by
 have H:=hideS (aU x w h)
 rw [hn] at H
 clear h hn
 go_enter Tryz.func195,Tryz.ntmps195
 go_wp2_with fail
 refine H.out.mono ?_
 rintro e w' ⟨rfl,rfl⟩
 go_wp2_with fail
 refine (sY _).mono ?_
 rintro e w' ⟨rfl,rfl⟩
 go_wp2_with fail
 go_ret
 exact⟨rfl,rfl⟩

set_option maxHeartbeats 400000 in
theorem Gn (x:Nat) (w:World) (h:U64 x) (hn:ag x=false) (hl:(FloatKind.f64.format.order x 0==some .lt)=true) :
  Calls Tryz.prog 195 #[.float .f64 x] w fun e w'=>e=.returned (.float .f64 9221120237041090561)∧w'=w:=by
 have H:=hideS (aU x w h)
 rw [hn] at H
 clear h hn
 go_enter Tryz.func195,Tryz.ntmps195
 go_wp2_with fail
 refine H.out.mono ?_
 rintro e w' ⟨rfl,rfl⟩
 go_wp2_with fail
 refine (sY _).mono ?_
 rintro e w' ⟨rfl,rfl⟩
 go_wp2_with fail
 go_ret
 exact⟨rfl,rfl⟩

set_option maxHeartbeats 400000 in
theorem EU (x:Nat) (w:World) (h:U64 x) (hn:ag x=false) (hl:(FloatKind.f64.format.order x 0==some .lt)=false) (he:(FloatKind.f64.format.order x 0==some .eq)=true) :
  Calls Tryz.prog 195 #[.float .f64 x] w fun e w'=>e=.returned (.float .f64 18442240474082181120)∧w'=w:=by
 have H:=hideS (aU x w h)
 rw [hn] at H
 clear h hn
 go_enter Tryz.func195,Tryz.ntmps195
 go_wp2_with fail
 refine H.out.mono ?_
 rintro e w' ⟨rfl,rfl⟩
 go_wp2_with fail
 refine (ET _).mono ?_
 rintro e w' ⟨rfl,rfl⟩
 go_wp2_with fail
 go_ret
 exact⟨rfl,rfl⟩

set_option maxHeartbeats 400000 in
theorem Gp (x:Nat) (w:World) (h:U64 x) (hn:ag x=false) (hl:(FloatKind.f64.format.order x 0==some .lt)=false) (he:(FloatKind.f64.format.order x 0==some .eq)=false) (hi:(FloatKind.f64.format.order x 9218868437227405311==some .gt)=true) :
  Calls Tryz.prog 195 #[.float .f64 x] w fun e w'=>e=.returned (.float .f64 x)∧w'=w:=by
 have H:=hideS (aU x w h)
 rw [hn] at H
 have HI:=hideS (fa x true w hi)
 clear h hn hi
 go_enter Tryz.func195,Tryz.ntmps195
 go_wp2_with fail
 refine H.out.mono ?_
 rintro e w' ⟨rfl,rfl⟩
 go_wp2_with fail
 refine HI.out.mono ?_
 rintro e w' ⟨rfl,rfl⟩
 go_wp2_with fail
 go_ret
 exact⟨rfl,rfl⟩

end Go.Proofs.YtjjlnmihkadlmaaGreat
namespace Go.Proofs.YtjjlnmihkadlmaaGreat
open Go.RowKit

end Go.Proofs.YtjjlnmihkadlmaaGreat
namespace Go.Proofs.YtjjlnmihkadlmaaGreat
open Go.RowKit

end Go.Proofs.YtjjlnmihkadlmaaGreat
namespace Go.Proofs.YtjjlnmihkadlmaaGreat
open Go.RowKit

end Go.Proofs.YtjjlnmihkadlmaaGreat
namespace Go.Proofs.YtjjlnmihkadlmaaGreat
open Go.RowKit

end Go.Proofs.YtjjlnmihkadlmaaGreat
namespace Go.Proofs.YtjjlnmihkadlmaaGreat
open Go.RowKit

def eG (base:Int) (ds:List Int):Nat→Int
 | 0=>base
 | k+1=>ds.getD k 0
def qK (base:Int) (ds:List Int) (fs:List Nat) (i:Nat):Bool:=decide (ds.getD i 0≤eG base ds i)||decide (109572<ds.getD i 0)||!bL (fs.getD i 0:Nat)||!ltB 0 (fs.getD i 0:Nat)
structure OkV (base kind:Int) (ds:List Int) (fs:List Nat):Prop where
 b0:0≤base
 b1:base≤109572
 k1:1≤kind
 k4:kind≤4
 lo:1≤ds.length
 hi:ds.length≤255
 len:fs.length=ds.length
 node:∀ i<ds.length,qK base ds fs i=false
inductive CurR (base kind:Int) (ds:List Int) (fs:List Nat):Int→Prop
 | ok (h:OkV base kind ds fs):CurR base kind ds fs 0
 | base (h:base<0∨109572<base):CurR base kind ds fs 51
 | kind (b0:0≤base) (b1:base≤109572) (h:kind<1∨4<kind):CurR base kind ds fs 90
 | len (b0:0≤base) (b1:base≤109572) (h1:1≤kind) (h4:kind≤4) (h:ds.length<1∨255<ds.length∨fs.length≠ds.length):CurR base kind ds fs 100
 | node (b0:0≤base) (b1:base≤109572) (h1:1≤kind) (h4:kind≤4) (lo:1≤ds.length) (hi:ds.length≤255) (len:fs.length=ds.length) (K:Nat) (hK:K<ds.length) (bad:qK base ds fs K=true) (fine:∀ i<K,qK base ds fs i=false):CurR base kind ds fs 100
theorem qM (base kind:Int) (ds:List Int) (fs:List Nat):∃ E,CurR base kind ds fs E:=by
 by_cases hb:base<0∨109572<base
 ·exact⟨51,.base hb⟩
 ·by_cases hk:kind<1∨4<kind
  ·exact⟨90,.kind (by omega) (by omega) hk⟩
  ·by_cases hl:ds.length<1∨255<ds.length∨fs.length≠ds.length
   ·exact⟨100,.len (by omega) (by omega) (by omega) (by omega) hl⟩
   ·by_cases hb:∃ i<ds.length,qK base ds fs i=true
    ·obtain⟨K,hK,h1,h2⟩:=cU _ hb
     exact⟨100,.node (by omega) (by omega) (by omega) (by omega) (by omega) (by omega) (by omega) K hK h1 h2⟩
    ·exact⟨0,.ok ⟨by omega,by omega,by omega,by omega,by omega,by omega,by omega,fun i hi=>by
      cases hc:qK base ds fs i
      ·rfl
      ·exact absurd ⟨i,hi,hc⟩ hb⟩⟩
theorem jB {base kind:Int} {ds:List Int} {fs:List Nat} (h:CurR base kind ds fs 0):OkV base kind ds fs:=by
 generalize hE:(0:Int)=E at h
 cases h with
 | ok h=>exact h
 | base h=>cases hE
 | kind=>cases hE
 | len=>cases hE
 | node=>cases hE
theorem fd {base:Int} {ds:List Int} {fs:List Nat} {i:Nat} (h:qK base ds fs i=false):eG base ds i<ds.getD i 0∧ds.getD i 0≤109572∧bL (fs.getD i 0:Nat)=true∧ltB 0 (fs.getD i 0:Nat)=true:=by
 unfold qK at h
 simp only [Bool.or_eq_false_iff,decide_eq_false_iff_not,Bool.not_eq_false'] at h
 obtain⟨⟨⟨a,b⟩,c⟩,d⟩:=h
 exact⟨by omega,by omega,c,d⟩
def ctX (base:Int) (ds:List Int):List Int:=base::ds
def ctY (fs:List Nat):List Nat:=4607182418800017408::fs
theorem qN (base:Int) (ds:List Int) (i:Nat):(ctX base ds).getD i 0=eG base ds i:=by
 cases i<;>rfl
theorem OkV.pos {base kind:Int} {ds:List Int} {fs:List Nat} (h:OkV base kind ds fs):∀ i≤ds.length,0≤eG base ds i
 | 0,_=>h.b0
 | i+1,hi=>by
  have:=fd (h.node i (by omega))
  have:=OkV.pos h i (by omega)
  show 0≤ds.getD i 0
  omega
theorem OkV.top {base kind:Int} {ds:List Int} {fs:List Nat} (h:OkV base kind ds fs):∀ i≤ds.length,eG base ds i≤109572
 | 0,_=>h.b1
 | i+1,hi=>(fd (h.node i (by omega))).2.1
theorem OkV.table {base kind:Int} {ds:List Int} {fs:List Nat} (h:OkV base kind ds fs):OkT kind (ctX base ds) (ctY fs):=by
 refine⟨h.k1,h.k4,by simp [ctX],by have:=h.hi;simp [ctX];omega,by simp [ctX,ctY,h.len],fun i hi=>?_⟩
 have hi':i≤ds.length:=by have:i<ds.length+1:=hi;omega
 have p:=h.pos i hi'
 have t:=h.top i hi'
 unfold fX
 rw [qN,decide_eq_false (show ¬ eG base ds i<0 by omega),decide_eq_false (show ¬ 109572<eG base ds i by omega)]
 cases i with
 | zero=>
  show (false||false||(decide (0<0)&&_)||!bL (4607182418800017408:Nat)||(decide (kind=4)&&!ltB 0 (4607182418800017408:Nat)))=false
  rw [show bL (4607182418800017408:Nat)=true by decide,show ltB 0 (4607182418800017408:Nat)=true by decide];simp
 | succ i=>
  obtain⟨a,b,c,d⟩:=fd (h.node i (by omega))
  have e1:(ctX base ds).getD (i+1 - 1) 0=eG base ds i:=by rw [Nat.add_sub_cancel,qN]
  have e2:(ctY fs).getD (i+1) 0=fs.getD i 0:=rfl
  have e3:eG base ds (i+1)=ds.getD i 0:=rfl
  rw [e1,e2,e3,c,d,decide_eq_false (show ¬ ds.getD i 0≤eG base ds i by omega)];simp
end Go.Proofs.YtjjlnmihkadlmaaGreat
namespace Go.Proofs.YtjjlnmihkadlmaaGreat
open Go.RowKit

def prvF (fs:List Nat):Nat→Nat
 | 0=>4607182418800017408
 | k+1=>fs.getD k 0
def kJ (fs:List Nat):Bool:=(List.range fs.length).all fun i=>!ltB (prvF fs i:Nat) (fs.getD i 0:Nat)
inductive FallR (fs:List Nat):Bool→Prop
 | yes (h:∀ i<fs.length,ltB (prvF fs i:Nat) (fs.getD i 0:Nat)=false):FallR fs true
 | no (K:Nat) (hK:K<fs.length) (bad:ltB (prvF fs K:Nat) (fs.getD K 0:Nat)=true) (fine:∀ i<K,ltB (prvF fs i:Nat) (fs.getD i 0:Nat)=false):FallR fs false
theorem Db (fs:List Nat):FallR fs (kJ fs):=by
 by_cases hb:∃ i<fs.length,ltB (prvF fs i:Nat) (fs.getD i 0:Nat)=true
 ·obtain⟨K,hK,h1,h2⟩:=cU _ hb
  have:kJ fs=false:=by
   unfold kJ
   rw [List.all_eq_false]
   exact⟨K,List.mem_range.2 hK,by rw [h1];decide⟩
  rw [this];exact .no K hK h1 h2
 ·have hf:∀ i<fs.length,ltB (prvF fs i:Nat) (fs.getD i 0:Nat)=false:=fun i hi=>by
   cases hc:ltB (prvF fs i:Nat) (fs.getD i 0:Nat)
   ·rfl
   ·exact absurd ⟨i,hi,hc⟩ hb
  have:kJ fs=true:=by
   unfold kJ
   rw [List.all_eq_true]
   intro i hi
   rw [hf i (List.mem_range.1 hi)];rfl
  rw [this];exact .yes hf
end Go.Proofs.YtjjlnmihkadlmaaGreat
namespace Go.Proofs.YtjjlnmihkadlmaaGreat
open Go.RowKit

structure VBox (w:World) (base kind:Int) (vd vf:Value) (wr:World):Prop where
 t0:wr.cell? ⟨w.heap.size,0,none⟩=some (.int .i64 base)
 t1:wr.cell? ⟨w.heap.size,1,none⟩=some (.int .i64 kind)
 t2:wr.cell? ⟨w.heap.size,2,none⟩=some vd
 t3:wr.cell? ⟨w.heap.size,3,none⟩=some vf
 bl:Below w.heap.size w wr
 lt:w.heap.size<wr.heap.size
theorem du (w:World) (base kind:Int) (vd vf:Value):VBox w base kind vd vf (w.alloc (.cells #[.int .i64 base,.int .i64 kind,vd,vf] 43)):=
 ⟨by simp,by simp,by simp,by simp,(Below.refl _ _).alloc (Nat.le_refl _) _,by simp⟩
theorem VBox.step {w wr w':World} {base kind:Int} {vd vf:Value} (h:VBox w base kind vd vf wr) (hb:Below wr.heap.size wr w'):VBox w base kind vd vf w':=
 ⟨(hb.cell (p:=⟨w.heap.size,0,none⟩) h.lt).trans h.t0,(hb.cell (p:=⟨w.heap.size,1,none⟩) h.lt).trans h.t1,(hb.cell (p:=⟨w.heap.size,2,none⟩) h.lt).trans h.t2,(hb.cell (p:=⟨w.heap.size,3,none⟩) h.lt).trans h.t3,h.bl.trans (hb.mono h.bl.size),Nat.lt_of_lt_of_le h.lt hb.size⟩
structure CSrcD (w:World) (pd pf:Option Addr) (bd od b2 o2:Nat) (ds:List Int) (fs:List Nat):Prop where
 d:VSrc w pd bd od ds.length (xV ds)
 f:VSrc w pf b2 o2 fs.length (yV fs)
 u:∀ i<fs.length,U64 (fs.getD i 0:Nat)
theorem CSrcD.below {w w':World} {pd pf:Option Addr} {bd od b2 o2:Nat} {ds:List Int} {fs:List Nat} (h:CSrcD w pd pf bd od b2 o2 ds fs) (hb:Below w.heap.size w w'):CSrcD w' pd pf bd od b2 o2 ds fs:=⟨h.d.below hb,h.f.below hb,h.u⟩

end Go.Proofs.YtjjlnmihkadlmaaGreat
