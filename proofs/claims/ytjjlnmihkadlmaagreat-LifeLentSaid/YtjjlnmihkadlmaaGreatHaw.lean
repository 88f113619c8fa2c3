/-  -/
import Derived.Test.YtjjlnmihkadlmaaGreatHav
import Derived.Test.YtjjlnmihkadlmaaGreatHam
import Derived.Deep.RegionHeld3
import Derived.Test.YtjjlnmihkadlmaaGreatHal
import Derived.Test.YtjjlnmihkadlmaaGreatHan
import Derived.Test.YtjjlnmihkadlmaaGreatHau
namespace Go.Proofs.YtjjlnmihkadlmaaGreat
open Go.RowKit

theorem sn {x y:Nat} (h:(x % 9223372036854775808=9218868437227405312∧y % 9223372036854775808=9218868437227405312)∨(x % 9223372036854775808=0∧y % 9223372036854775808=0)):floatBits .quo .f64 x y=none:=by
 show ((Ieee.double.read x).quotient 54 (Ieee.double.read y)).map Ieee.double.write=_
 rcases h with⟨hx,hy⟩| ⟨hx,hy⟩
 ·rw [aI hx,aI hy];rfl
 ·rw [au (by omega),au (by omega),hx,hy];rfl
theorem xd {x y:Nat} (hx:x % 9223372036854775808=9218868437227405312) (hy:af y):floatBits .quo .f64 x y=some (wrd (sB x^^sB y) 9218868437227405312):=by
 show ((Ieee.double.read x).quotient 54 (Ieee.double.read y)).map Ieee.double.write=_
 rw [aI hx,au hy]
 show some (Ieee.double.write (.infinity _))=_
 rw [cZ];rfl
theorem kv {x y:Nat} (hx:af x) (h0:x % 9223372036854775808≠0) (hy:y % 9223372036854775808=0):floatBits .quo .f64 x y=some (wrd (sB x^^sB y) 9218868437227405312):=by
 have hm:=eD h0
 show ((Ieee.double.read x).quotient 54 (Ieee.double.read y)).map Ieee.double.write=_
 rw [au hx,au (b:=y) (by omega),hy,show mg 0=0 by decide]
 show (if mg (x % 9223372036854775808)=0 then none else some (Ieee.Datum.infinity (_^^_))).map Ieee.double.write=_
 rw [if_neg hm]
 show some (Ieee.double.write (.infinity _))=_
 rw [cZ];rfl
theorem vg (s:Bool) (i:Int):Ieee.double.write (.number s 0 i)=wrd s 0:=by
 show Ieee.double.nearest s 0 i=_
 rw [bX,fv]
theorem lU {x y:Nat} (hx:af x) (hy:y % 9223372036854775808=9218868437227405312):floatBits .quo .f64 x y=some (wrd (sB x^^sB y) 0):=by
 show ((Ieee.double.read x).quotient 54 (Ieee.double.read y)).map Ieee.double.write=_
 rw [au hx,aI hy]
 show some (Ieee.double.write (.number _ 0 0))=_
 rw [vg];rfl
theorem oz (s t:Bool) (m n:Nat) (i j:Int) (hn:n≠0):((Ieee.Datum.number s m i).quotient 54 (.number t n j)).map Ieee.double.write=some (Ieee.double.nearest (s^^t) (2*(m*2^(54+n.log2 - m.log2) / n)+(m*2^(54+n.log2 - m.log2) % n !=0).toNat) (i - j - ((54+n.log2 - m.log2:Nat):Int) - 1)):=by
 show (if n=0 then _ else some (Ieee.Datum.number (s^^t) (2*((m <<< (54+n.log2 - m.log2)) / n)+((m <<< (54+n.log2 - m.log2)) % n !=0).toNat) (i - j - ((54+n.log2 - m.log2:Nat):Int) - 1))).map Ieee.double.write=_
 rw [if_neg hn,Nat.shiftLeft_eq]
 rfl
theorem sp {x y:Nat} (hx:x % 9223372036854775808=0) (hy:af y) (h0:y % 9223372036854775808≠0):floatBits .quo .f64 x y=some (wrd (sB x^^sB y) 0):=by
 have hm:=eD h0
 show ((Ieee.double.read x).quotient 54 (Ieee.double.read y)).map Ieee.double.write=_
 rw [au (b:=x) (by omega),au hy,hx,oz _ _ _ _ _ _ hm,show mg 0=0 by decide,Nat.zero_mul,Nat.zero_div,Nat.zero_mod]
 show some (Ieee.double.nearest _ 0 _)=_
 rw [bX,fv];rfl
theorem Eu (X Y k:Nat):2*(X*2^k / Y)+(X*2^k % Y !=0).toNat=bf X Y k:=by
 unfold bf
 congr 1
 by_cases h:X*2^k % Y=0
 ·rw [if_pos h,h];rfl
 ·rw [if_neg h,show (X*2^k % Y !=0)=true by simpa using h];rfl
theorem gQ {x y:Nat} (hx:af x) (hy:af y) (h0:x % 9223372036854775808≠0) (h1:y % 9223372036854775808≠0) {X Y:Nat} {ex ey:Int} (hX:X=mg (x % 9223372036854775808)) (hY:Y=mg (y % 9223372036854775808)) (hex:ex= -1074+(pl (x % 9223372036854775808):Int)) (hey:ey= -1074+(pl (y % 9223372036854775808):Int)) {k:Nat} (hk:54+Y.log2 - X.log2≤k) :
  floatBits .quo .f64 x y=some (wrd (sB x^^sB y) (nearR (bf X Y k) (ex - ey - 1 - k))):=by
 have hX0:X≠0:=by rw [hX];exact eD h0
 have hY0:Y≠0:=by rw [hY];exact eD h1
 show ((Ieee.double.read x).quotient 54 (Ieee.double.read y)).map Ieee.double.write=_
 rw [au hx,au hy,← hX,← hY,← hex,← hey,oz _ _ _ _ _ _ hY0,Eu]
 have hq:=sk hX0 hY0 (k:=54+Y.log2 - X.log2) (by omega)
 have hq0:bf X Y (54+Y.log2 - X.log2)≠0:=by intro h;rw [h] at hq;exact absurd hq.2 (by decide)
 rw [bQ _ hq0,fv]
 have:=Bz (X:=X) (Y:=Y) (p:=ex - ey - 1) (by omega) hk hq.2
 rw [← this,show ex - ey - ((54+Y.log2 - X.log2:Nat):Int) - 1=ex - ey - 1 - ((54+Y.log2 - X.log2:Nat):Int) by omega]
 rfl

set_option maxHeartbeats 1600000 in
theorem fJ (u v:Int) (w:World) (h:U64 u) (h':U64 v) (hc:ag u=true∨(ag u=false∧ag v=true)∨(ag u=false∧ag v=false∧aN u=true∧aN v=true)∨(ag u=false∧ag v=false∧aN u=false∧(szI u==0)=true∧(szI v==0)=true)) :
  Calls Tryz.prog 64 #[.int .u64 u,.int .u64 v] w fun e w'=>e=.returned (.int .u64 9221120237041090561)∧w'=w:=by
 have hS:=pZ h h'
 rcases hc with h1 | ⟨h1,h2⟩| ⟨h1,h2,h3,h4⟩| ⟨h1,h2,h3,h4,h5⟩
 all_goals
  go_enter Tryz.func64,Tryz.ntmps64
  go_wp2_with (first | (go_at_call_of 84 (Value.int IntKind.u64 u);refine (ah u _ h).mono ?_;rintro e w' ⟨rfl,rfl⟩) | (go_at_call_of 84 (Value.int IntKind.u64 v);refine (ah v _ h').mono ?_;rintro e w' ⟨rfl,rfl⟩) | (go_at_call_of 85 (Value.int IntKind.u64 u);refine (aq u _ h).mono ?_;rintro e w' ⟨rfl,rfl⟩) | (go_at_call_of 85 (Value.int IntKind.u64 v);refine (aq v _ h').mono ?_;rintro e w' ⟨rfl,rfl⟩) | (go_at_call_of 66 (Value.int IntKind.u64 u);refine (ay u _ h).mono ?_;rintro e w' ⟨rfl,rfl⟩) | (go_at_call_of 66 (Value.int IntKind.u64 v);refine (ay v _ h').mono ?_;rintro e w' ⟨rfl,rfl⟩))
  go_ret
  exact⟨rfl,rfl⟩

set_option maxHeartbeats 1600000 in
theorem lV (u v S:Int) (w:World) (h:U64 u) (h':U64 v) (hS:bits .and .u64 (bits .xor .u64 u v) 9223372036854775808=S) (hS0:0≤S) (hS1:S≤9223372036854775808) (hn:ag u=false) (hn':ag v=false) (hz:(szI u==0)=false) (hc:(aN u=true∧aN v=false)∨(aN u=false∧(szI v==0)=true)) :
  Calls Tryz.prog 64 #[.int .u64 u,.int .u64 v] w fun e w'=>e=.returned (.int .u64 (S+9218868437227405312))∧w'=w:=by
 rcases hc with⟨h1,h2⟩| ⟨h1,h2⟩
 all_goals
  go_enter Tryz.func64,Tryz.ntmps64
  go_wp2_with (first | (go_at_call_of 84 (Value.int IntKind.u64 u);refine (ah u _ h).mono ?_;rintro e w' ⟨rfl,rfl⟩) | (go_at_call_of 84 (Value.int IntKind.u64 v);refine (ah v _ h').mono ?_;rintro e w' ⟨rfl,rfl⟩) | (go_at_call_of 85 (Value.int IntKind.u64 u);refine (aq u _ h).mono ?_;rintro e w' ⟨rfl,rfl⟩) | (go_at_call_of 85 (Value.int IntKind.u64 v);refine (aq v _ h').mono ?_;rintro e w' ⟨rfl,rfl⟩) | (go_at_call_of 66 (Value.int IntKind.u64 u);refine (ay u _ h).mono ?_;rintro e w' ⟨rfl,rfl⟩) | (go_at_call_of 66 (Value.int IntKind.u64 v);refine (ay v _ h').mono ?_;rintro e w' ⟨rfl,rfl⟩))
  go_ret
  exact⟨rfl,rfl⟩

set_option maxHeartbeats 1600000 in
theorem gq (u v S:Int) (w:World) (h:U64 u) (h':U64 v) (hS:bits .and .u64 (bits .xor .u64 u v) 9223372036854775808=S) (hn:ag u=false) (hn':ag v=false) (hi:aN u=false) (hz:(szI v==0)=false) (hc:(aN v=true∧(szI u==0)=true)∨(aN v=true∧(szI u==0)=false)∨(aN v=false∧(szI u==0)=true)) :
  Calls Tryz.prog 64 #[.int .u64 u,.int .u64 v] w fun e w'=>e=.returned (.int .u64 S)∧w'=w:=by
 rcases hc with⟨h1,h2⟩| ⟨h1,h2⟩| ⟨h1,h2⟩
 all_goals
  go_enter Tryz.func64,Tryz.ntmps64
  go_wp2_with (first | (go_at_call_of 84 (Value.int IntKind.u64 u);refine (ah u _ h).mono ?_;rintro e w' ⟨rfl,rfl⟩) | (go_at_call_of 84 (Value.int IntKind.u64 v);refine (ah v _ h').mono ?_;rintro e w' ⟨rfl,rfl⟩) | (go_at_call_of 85 (Value.int IntKind.u64 u);refine (aq u _ h).mono ?_;rintro e w' ⟨rfl,rfl⟩) | (go_at_call_of 85 (Value.int IntKind.u64 v);refine (aq v _ h').mono ?_;rintro e w' ⟨rfl,rfl⟩) | (go_at_call_of 66 (Value.int IntKind.u64 u);refine (ay u _ h).mono ?_;rintro e w' ⟨rfl,rfl⟩) | (go_at_call_of 66 (Value.int IntKind.u64 v);refine (ay v _ h').mono ?_;rintro e w' ⟨rfl,rfl⟩))
  go_ret
  exact⟨rfl,rfl⟩

theorem jq {r:Nat} (h:V r=0):r=0:=by
 have:=dI (r:=r) (s:=0)
 rw [bu] at this
 exact this.1 h
theorem Ev (s:Bool) {r:Nat} (h:r≤9218868437227405312):U64 (gn s+(r:Int))∧szI (gn s+(r:Int))=r:=by
 unfold gn U64 szI
 cases s<;>simp only [Bool.false_eq_true,if_true,if_false]<;>omega
theorem eR (x:Nat):x % 9223372036854775808 % 9223372036854775808=x % 9223372036854775808:=Nat.mod_mod _ _
theorem BB {x y X Y k:Nat} {nx:Bool} {ex ey:Int} (hx:OfR (x % 9223372036854775808) nx X ex) {ny:Bool} (hy:OfR (y % 9223372036854775808) ny Y ey) (hnx:af x) (hny:af y) (h0:x % 9223372036854775808≠0) (h1:y % 9223372036854775808≠0) (hX0:X≠0) (hY0:Y≠0) (hk:max 0 (70 - (bl X:Int)+(bl Y:Int))=(k:Int)) (more:Bool) (hmo:decide (0<nd (X*2^k % Y))=more) :
  ∃ r:Nat,r≤9218868437227405312∧floatBits .quo .f64 x y=some (wrd (sB x^^sB y) r)∧U64 (bO nx (X*2^k / Y) (ex - k - ey) more)∧szI (bO nx (X*2^k / Y) (ex - k - ey) more)=r:=by
 obtain⟨a1,a2⟩:=hx.mag hX0
 obtain⟨b1,b2⟩:=hy.mag hY0
 rw [eR] at a1 a2 b1 b2
 have hbx:=gc hX0
 have hby:=gc hY0
 have hkk:54+Y.log2 - X.log2≤k:=by omega
 have hq:=gQ hnx hny h0 h1 a1 b1 a2 b2 hkk
 have hb:=sk hX0 hY0 (k:=k) (by omega)
 refine⟨nearR (bf X Y k) (ex - ey - 1 - (k:Int)),Nat.min_le_right _ _,hq,?_⟩
 rw [ve nx more _ hb.1]
 have e:2*(X*2^k / Y)+(if more=true then 1 else 0)=bf X Y k:=by
  unfold bf
  congr 1
  by_cases hr:X*2^k % Y=0
  ·rw [hr] at hmo
   rw [if_pos hr,← hmo];rfl
  ·have:=dw hr
   rw [if_neg hr,← hmo,if_pos (decide_eq_true (show 0<nd (X*2^k % Y) from this))]
 rw [e,show ex - (k:Int) - ey - 1=ex - ey - 1 - (k:Int) by omega]
 have hle:nearR (bf X Y k) (ex - ey - 1 - (k:Int))≤9218868437227405312:=Nat.min_le_right _ _
 generalize nearR (bf X Y k) (ex - ey - 1 - (k:Int))=r at hle
 exact Ev nx hle

set_option maxRecDepth 10000 in
set_option maxHeartbeats 1600000 in
theorem vh (x y r:Nat) (u v S R:Int) (w:World) (hu:Hid (u=(x:Int))) (hv:Hid (v=(y:Int))) (h:U64 u) (h':U64 v) (hx:af x) (hy:af y) (h0:Hid (x % 9223372036854775808≠0)) (h1:Hid (y % 9223372036854775808≠0)) (hS:bits .and .u64 (bits .xor .u64 u v) 9223372036854775808=S) (hS0:0≤S) (hS1:S≤9223372036854775808) (hr:Hid (floatBits .quo .f64 x y=some (wrd (sB x^^sB y) r))) (hr2:Hid (r≤9218868437227405312)) (hR:Hid (R=(r:Int))) (hn:ag u=false) (hn':ag v=false) (hi:aN u=false) (hi':aN v=false) (hz:(szI u==0)=false) (hz':(szI v==0)=false) :
  Calls Tryz.prog 64 #[.int .u64 u,.int .u64 v] w fun e w'=>e=.returned (.int .u64 (S+R))∧Below w.heap.size w w':=by
 have hR0:0≤R:=by rw [hR.out];omega
 have hR1:R≤9218868437227405312:=by have:=hr2.out;rw [hR.out];omega
 have HX:=aa hx
 have HY:=aa hy
 have cx:=bA hu.out
 have cy:=bA hv.out
 obtain⟨zu,hzu⟩:∃ zu,szI u=zu:=⟨_,rfl⟩
 obtain⟨zv,hzv⟩:∃ zv,szI v=zv:=⟨_,rfl⟩
 rw [hzu] at cx hz
 rw [hzv] at cy hz'
 have HO1:Hid (∀ w,Calls Tryz.prog 89 #[.int .u64 zu] w fun r w'=>∃ neg v N e,r=.returned (.agg #[.bool neg,v,.int .i64 e])∧DN w' v N∧OfR (x % 9223372036854775808) neg N e∧Below w.heap.size w w'):=fun w=>eC (x % 9223372036854775808) zu w cx (by rw [cx];exact an (by omega)) (by unfold af at *;rw [eR];exact hx)
 have HO2:Hid (∀ w,Calls Tryz.prog 89 #[.int .u64 zv] w fun r w'=>∃ neg v N e,r=.returned (.agg #[.bool neg,v,.int .i64 e])∧DN w' v N∧OfR (y % 9223372036854775808) neg N e∧Below w.heap.size w w'):=fun w=>eC (y % 9223372036854775808) zv w cy (by rw [cy];exact an (by omega)) (by unfold af at *;rw [eR];exact hy)
 have HS1:=aa fun w=>fE u zu w h hzu
 have HS2:=aa fun w=>fE v zv w h' hzv
 have HN1:=aa (ah u · h)
 have HN2:=aa (ah v · h')
 have HI1:=aa (aq u · h)
 have HI2:=aa (aq v · h')
 rw [hn] at HN1
 rw [hn'] at HN2
 rw [hi] at HI1
 rw [hi'] at HI2
 clear hx hy hn hn' hi hi' h h' hzu hzv cx cy
 go_enter Tryz.func64,Tryz.ntmps64
 go_wp2_with (first | (go_at_call_of 84 (Value.int IntKind.u64 u);refine (aK (HN1.out _)).mono ?_;rintro e w' ⟨rfl,rfl⟩) | (go_at_call_of 84 (Value.int IntKind.u64 v);refine (aK (HN2.out _)).mono ?_;rintro e w' ⟨rfl,rfl⟩) | (go_at_call_of 85 (Value.int IntKind.u64 u);refine (aK (HI1.out _)).mono ?_;rintro e w' ⟨rfl,rfl⟩) | (go_at_call_of 85 (Value.int IntKind.u64 v);refine (aK (HI2.out _)).mono ?_;rintro e w' ⟨rfl,rfl⟩) | (go_at_call_of 66 (Value.int IntKind.u64 u);refine (HS1.out _).mono ?_;rintro e w' ⟨rfl,rfl⟩) | (go_at_call_of 66 (Value.int IntKind.u64 v);refine (HS2.out _).mono ?_;rintro e w' ⟨rfl,rfl⟩))
 refine (HO1.out _).mono ?_
 rintro r1 w1 ⟨nx,vx,X,ex,rfl,hdx,hX,hb1⟩
 have HB1:=aa hb1
 have HDx:=aa hdx
 have HOX:=aa hX
 clear hb1 hdx hX
 go_wp2_with fail
 refine (HS2.out _).mono ?_
 rintro e w' ⟨rfl,rfl⟩
 go_wp2_with fail
 refine (HO2.out _).mono ?_
 rintro r1 w2 ⟨ny,vy,Y,ey,rfl,hdy,hY,hb2⟩
 have HB2:=aa (HB1.out.trans (hb2.mono HB1.out.size))
 have HDx2:=aa (HDx.out.below hb2)
 have HDy:=aa hdy
 have HOY:=aa hY
 clear hb2 hdy hY HB1 HDx
 have HX0:Hid (X≠0):=fun e=>h0.out (by have:=HOX.out.val;rw [e,Nat.zero_mul] at this;unfold aV at this;rw [eR] at this;exact jq this.symm)
 have HY0:Hid (Y≠0):=fun e=>h1.out (by have:=HOY.out.val;rw [e,Nat.zero_mul] at this;unfold aV at this;rw [eR] at this;exact jq this.symm)
 obtain⟨k,hk⟩:∃ k:Nat,max 0 (70 - (bl X:Int)+(bl Y:Int))=(k:Int):=⟨(max 0 (70 - (bl X:Int)+(bl Y:Int))).toNat,by omega⟩
 obtain⟨mo,hmo⟩:∃ mo,decide (0<nd (X*2^k % Y))=mo:=⟨_,rfl⟩
 obtain⟨r',p1,p2,p3,p4⟩:=BB HOX.out HOY.out HX.out HY.out h0.out h1.out HX0.out HY0.out hk mo hmo
 have hrr:r'=r:=by
  have e:=hr.out
  rw [p2] at e
  have e2:wrd (sB x^^sB y) r'=wrd (sB x^^sB y) r:=Option.some.inj e
  unfold wrd at e2
  split at e2<;>omega
 obtain⟨res,hres⟩:∃ res,bO nx (X*2^k / Y) (ex - k - ey) mo=res:=⟨_,rfl⟩
 rw [hres] at p3 p4
 rw [hrr,← hR.out] at p4
 have HOv:=aa (sl nx ny mo vx vy ex ey res X Y k _ w2 HDx2.out HDy.out HX0.out HY0.out (by have:=dy HOX.out.lt;omega) (by have:=dy HOY.out.lt;omega) (by have:=HOX.out.lo;omega) (by have:=HOX.out.hi;omega) (by have:=HOY.out.lo;omega) (by have:=HOY.out.hi;omega) hk rfl hmo hres)
 have HSz:=aa fun w=>fE res R w p3 p4
 clear hk hmo hres p1 p2 p3 p4 hrr HX0 HY0 HOX HOY HDx2 HDy hr hr2
 go_wp2_with fail
 refine HOv.out.mono ?_
 rintro r1 w3 ⟨rfl,hb3⟩
 have HB3:=aa (HB2.out.trans (hb3.mono HB2.out.size))
 clear hb3 HOv HB2
 go_wp2_with fail
 refine (HSz.out _).mono ?_
 rintro r1 w' ⟨rfl,rfl⟩
 go_wp2_with fail
 go_ret
 exact⟨rfl,HB3.out⟩

theorem iE (x y:Nat) (u v:Int) (w:World) (hu:Hid (u=(x:Int))) (hv:Hid (v=(y:Int))) (h:U64 u) (h':U64 v) :
  Calls Tryz.prog 64 #[.int .u64 u,.int .u64 v] w fun e w'=>e=.returned (.int .u64 (cn (floatBits .quo .f64 x y):Int))∧Below w.heap.size w w':=by
 have hS:=pZ h h'
 obtain⟨s0,s1⟩:=xb (sgB u^^sgB v)
 have hx64:x<18446744073709551616:=by have:=h.2;rw [hu.out] at this;omega
 have hy64:y<18446744073709551616:=by have:=h'.2;rw [hv.out] at this;omega
 have hsx:sgB u=sB x:=by rw [hu.out];exact ek hx64
 have hsy:sgB v=sB y:=by rw [hv.out];exact ek hy64
 have cx:=bA hu.out
 have cy:=bA hv.out
 have zx:∀ b,decide (x % 9223372036854775808=0)=b→(szI u==0)=b:=fun b e=>by
  rw [← e,cx];by_cases c:x % 9223372036854775808=0
  ·rw [c];rfl
  ·rw [decide_eq_false c];simp;omega
 have zy:∀ b,decide (y % 9223372036854775808=0)=b→(szI v==0)=b:=fun b e=>by
  rw [← e,cy];by_cases c:y % 9223372036854775808=0
  ·rw [c];rfl
  ·rw [decide_eq_false c];simp;omega
 have same:∀ {r:Int},(Calls Tryz.prog 64 #[.int .u64 u,.int .u64 v] w fun e w'=>e=.returned (.int .u64 r)∧w'=w)→(cn (floatBits .quo .f64 x y):Int)=r→Calls Tryz.prog 64 #[.int .u64 u,.int .u64 v] w fun e w'=>e=.returned (.int .u64 (cn (floatBits .quo .f64 x y):Int))∧Below w.heap.size w w':=fun hc e=>by
  rw [e]
  exact hc.mono fun _ _ ⟨a,b⟩=>⟨a,by rw [b];exact Below.refl _ _⟩
 cases hn:ag u with
 | true=>
  refine same (fJ u v w h h' (Or.inl hn)) ?_
  rw [dr (by rw [← hu.out];exact hn)];rfl
 | false=>
  cases hn':ag v with
  | true=>
   refine same (fJ u v w h h' (Or.inr (Or.inl ⟨hn,hn'⟩))) ?_
   rw [dH (by rw [← hv.out];exact hn')];rfl
  | false=>
   cases hi:aN u with
   | true=>
    have ix:=fC hu.out hi
    cases hi':aN v with
    | true=>
     have iy:=fC hv.out hi'
     refine same (fJ u v w h h' (Or.inr (Or.inr (Or.inl ⟨hn,hn',hi,hi'⟩)))) ?_
     rw [sn (Or.inl ⟨ix,iy⟩)];rfl
    | false=>
     have ny:=dQ hv.out hn' hi'
     refine same (lV u v _ w h h' hS s0 s1 hn hn' (zx _ (by rw [ix];rfl)) (Or.inl ⟨hi,hi'⟩)) ?_
     rw [xd ix ny,ar,dt,hsx,hsy];rfl
   | false=>
    have nx:=dQ hu.out hn hi
    by_cases hyz:y % 9223372036854775808=0
    ·by_cases hxz:x % 9223372036854775808=0
     ·refine same (fJ u v w h h' (Or.inr (Or.inr (Or.inr ⟨hn,hn',hi,zx _ (decide_eq_true hxz),zy _ (decide_eq_true hyz)⟩)))) ?_
      rw [sn (Or.inr ⟨hxz,hyz⟩)];rfl
     ·refine same (lV u v _ w h h' hS s0 s1 hn hn' (zx _ (decide_eq_false hxz)) (Or.inr ⟨hi,zy _ (decide_eq_true hyz)⟩)) ?_
      rw [kv nx hxz hyz,ar,dt,hsx,hsy];rfl
    ·cases hi':aN v with
     | true=>
      have iy:=fC hv.out hi'
      have e:(cn (floatBits .quo .f64 x y):Int)=gn (sgB u^^sgB v):=by rw [lU nx iy,ar,dt,hsx,hsy];simp
      by_cases hxz:x % 9223372036854775808=0
      ·exact same (gq u v _ w h h' hS hn hn' hi (zy _ (decide_eq_false hyz)) (Or.inl ⟨hi',zx _ (decide_eq_true hxz)⟩)) e
      ·exact same (gq u v _ w h h' hS hn hn' hi (zy _ (decide_eq_false hyz)) (Or.inr (Or.inl ⟨hi',zx _ (decide_eq_false hxz)⟩))) e
     | false=>
      have ny:=dQ hv.out hn' hi'
      by_cases hxz:x % 9223372036854775808=0
      ·refine same (gq u v _ w h h' hS hn hn' hi (zy _ (decide_eq_false hyz)) (Or.inr (Or.inr ⟨hi',zx _ (decide_eq_true hxz)⟩))) ?_
       rw [sp hxz ny hyz,ar,dt,hsx,hsy];simp
      ·obtain⟨r,hr,hle⟩:∃ r,floatBits .quo .f64 x y=some (wrd (sB x^^sB y) r)∧r≤9218868437227405312:=⟨_,gQ nx ny hxz hyz rfl rfl rfl rfl (Nat.le_refl _),Nat.min_le_right _ _⟩
       have e:(cn (floatBits .quo .f64 x y):Int)=gn (sgB u^^sgB v)+(r:Int):=by rw [hr,ar,dt,hsx,hsy]
       rw [e]
       exact vh x y r u v _ _ w hu hv h h' nx ny hxz hyz hS s0 s1 hr hle rfl hn hn' hi hi' (zx _ (decide_eq_false hxz)) (zy _ (decide_eq_false hyz))
end Go.Proofs.YtjjlnmihkadlmaaGreat
namespace Go.Proofs.YtjjlnmihkadlmaaGreat
open Go.RowKit

def iF (x y:Nat):Nat:=cn (floatBits .add .f64 x y)
def lW (x y:Nat):Nat:=cn (floatBits .sub .f64 x y)
def nL (x y:Nat):Nat:=cn (floatBits .mul .f64 x y)
def cR (x y:Nat):Nat:=cn (floatBits .quo .f64 x y)
theorem bB {x:Nat} (h:x<18446744073709551616):U64 (x:Nat):=⟨by omega,by omega⟩
theorem oA {n:Int} (h0: -9007199254740992≤n) (h1:n≤9007199254740992):fi n<18446744073709551616:=(lL rfl h0 h1).2.2.2
def bF (xs:List Int) (ys:List Nat) (k:Nat):Nat:=cR (lW (ys.getD (k+1) 0) (ys.getD k 0)) (fi (xs.getD (k+1) 0 - xs.getD k 0))
end Go.Proofs.YtjjlnmihkadlmaaGreat
namespace Go.Proofs.YtjjlnmihkadlmaaGreat
open Go.RowKit

end Go.Proofs.YtjjlnmihkadlmaaGreat
namespace Go.Proofs.YtjjlnmihkadlmaaGreat
open Go.RowKit

def overG (N:Int) (d:Nat):Nat:=if N=0 then 0 else wrd (decide (N<0)) (nearR (bf N.natAbs d 0) (-2149))
def eE (N:Int) (d:Nat):Int:=if N=0 then 0 else if N<0 then -(nearR (bf N.natAbs d 0) (-2149):Int) else (nearR (bf N.natAbs d 0) (-2149):Int)
theorem ml (M:Nat) (p:Int):nearR M p≤9218868437227405312:=by
 rw [iv];omega
theorem yP (s:Bool) {r:Nat} (h:r≤9218868437227405312):U64 (wrd s r:Nat)∧ag (wrd s r:Nat)=false∧ae (wrd s r:Nat)=if s then -(r:Int) else (r:Int):=by
 have hn:ag (wrd s r:Nat)=false:=by
  unfold ag szI wrd
  rw [decide_eq_false_iff_not]
  cases s<;>simp<;>omega
 refine⟨by unfold U64 wrd;cases s<;>simp<;>omega,hn,?_⟩
 unfold ae
 rw [hn,if_neg (by decide)]
 unfold sgB szI wrd
 cases s
 ·have:¬ (9223372036854775808:Int)≤(r:Int):=by omega
  simp [this]
  omega
 ·simp
  omega
theorem cA (N:Int) (d:Nat):U64 (overG N d:Nat)∧ag (overG N d:Nat)=false∧ae (overG N d:Nat)=eE N d:=by
 unfold overG eE
 by_cases h0:N=0
 ·rw [if_pos h0,if_pos h0]
  exact⟨by unfold U64;decide,by decide,by decide⟩
 ·rw [if_neg h0,if_neg h0]
  obtain⟨a,b,c⟩:=yP (decide (N<0)) (ml (bf N.natAbs d 0) (-2149))
  refine⟨a,b,?_⟩
  rw [c]
  by_cases hn:N<0<;>simp [hn]
theorem mm {X X' Y k:Nat} (h:X≤X'):bf X Y k≤bf X' Y k:=by
 have h1:X*2^k≤X'*2^k:=Nat.mul_le_mul_right _ h
 unfold bf
 generalize X*2^k=A at *
 generalize X'*2^k=B at *
 have h2:A / Y≤B / Y:=Nat.div_le_div_right h1
 have ea:=Nat.div_add_mod A Y
 have eb:=Nat.div_add_mod B Y
 by_cases hq:A / Y=B / Y
 ·rw [hq] at ea ⊢
  have:A % Y≤B % Y:=by omega
  split<;>split<;>omega
 ·split<;>split<;>omega
theorem oF {N N':Int} (d:Nat) (h:N≤N'):eE N d≤eE N' d:=by
 unfold eE
 by_cases h1:N'<0
 ·have:=bS (-2149) (mm (Y:=d) (k:=0) (show N'.natAbs≤N.natAbs by omega))
  rw [if_neg (by omega),if_pos (by omega),if_neg (by omega),if_pos h1]
  omega
 ·by_cases h2:0<N
  ·have:=bS (-2149) (mm (Y:=d) (k:=0) (show N.natAbs≤N'.natAbs by omega))
   rw [if_neg (by omega),if_neg (by omega),if_neg (by omega),if_neg (by omega)]
   omega
  ·(repeat' split)<;>omega
theorem BZ (N:Int) (d:Nat):eE (-N) d= -eE N d:=by
 unfold eE
 by_cases h0:N=0
 ·rw [if_pos h0,if_pos (by omega)];rfl
 ·rw [if_neg h0,if_neg (by omega),Int.natAbs_neg]
  by_cases hn:N<0
  ·rw [if_pos hn,if_neg (by omega)];omega
  ·rw [if_neg hn,if_pos (by omega)]
theorem xh {r d K:Nat} (hK:K=1074) (hr:r<9218868437227405312) (hd:0<d):eE (((V r*2^K*d:Nat)):Int) d=r:=by
 unfold eE
 by_cases h0:V r*2^K*d=0
 ·rw [h0,if_pos (show ((0:Nat):Int)=0 from rfl)]
  have h1:V r=0:=by
   have hp:=Nat.two_pow_pos K
   rcases Nat.mul_eq_zero.1 h0 with c | c
   ·rcases Nat.mul_eq_zero.1 c with c | c<;>omega
   ·omega
  have:V r=V 0:=by rw [h1,bu]
  rw [dI] at this
  rw [this];rfl
 ·rw [if_neg (by omega),if_neg (by omega),Int.natAbs_natCast]
  have e:bf (V r*2^K*d) d 0=V r*2^(K+1):=by
   unfold bf
   rw [Nat.pow_zero,Nat.mul_one,Nat.mul_div_cancel _ hd,Nat.mul_mod_left,if_pos rfl,Nat.pow_succ,Nat.add_zero]
   generalize V r=a
   generalize 2^K=b
   rw [Nat.mul_comm 2,Nat.mul_assoc]
  rw [e]
  have:=kW hr (K+1)
  rw [show (-1074:Int) - ((K+1:Nat):Int)= -2149 by omega] at this
  rw [this]
def uI (K:Nat) (y:Nat):Int:=vI y*((2^K:Nat):Int)
theorem vI_rank {y:Nat} (h64:y<18446744073709551616) (hy:af y):(0≤ae (y:Nat)∧vI y=(V (y % 9223372036854775808):Int)∧ae (y:Nat)=((y % 9223372036854775808:Nat):Int))∨(ae (y:Nat)≤0∧vI y= -(V (y % 9223372036854775808):Int)∧ae (y:Nat)= -((y % 9223372036854775808:Nat):Int)):=by
 unfold af at hy
 have hn:ag (y:Nat)=false:=by unfold ag szI;rw [decide_eq_false_iff_not];omega
 unfold ae vI
 rw [hn,if_neg (by decide)]
 unfold sgB szI
 by_cases hs:y<9223372036854775808
 ·left
  have h1:¬ (9223372036854775808:Int)≤(y:Int):=by omega
  have h2:y / 9223372036854775808 % 2=0:=by omega
  rw [h2]
  simp only [h1,decide_false,Bool.false_eq_true,if_false,show ((0:Nat)==1)=false from rfl]
  exact⟨by omega,trivial,by omega⟩
 ·right
  have h1:(9223372036854775808:Int)≤(y:Int):=by omega
  have h2:y / 9223372036854775808 % 2=1:=by omega
  rw [h2]
  simp only [h1,decide_true,if_true,beq_self_eq_true]
  exact⟨by omega,trivial,by omega⟩
theorem sJ {y d K:Nat} (hK:K=1074) (h64:y<18446744073709551616) (hy:af y) (hd:0<d):eE (uI K y*(d:Int)) d=ae (y:Nat):=by
 unfold af at hy
 rcases vI_rank h64 hy with⟨_,hv,hr⟩| ⟨_,hv,hr⟩
 ·unfold uI
  rw [hv,hr,← xh (r:=y % 9223372036854775808) hK (by omega) hd]
  simp only [Int.natCast_mul]
 ·unfold uI
  rw [hv,hr,← xh (r:=y % 9223372036854775808) hK (by omega) hd,Int.neg_mul,Int.neg_mul,BZ]
  simp only [Int.natCast_mul]
theorem xj {y d K:Nat} {N:Int} (hK:K=1074) (h64:y<18446744073709551616) (hy:af y) (hd:0<d) (h:uI K y*(d:Int)≤N):ae (y:Nat)≤eE N d:=by
 rw [← sJ hK h64 hy hd];exact oF d h
theorem xk {y d K:Nat} {N:Int} (hK:K=1074) (h64:y<18446744073709551616) (hy:af y) (hd:0<d) (h:N≤uI K y*(d:Int)):eE N d≤ae (y:Nat):=by
 rw [← sJ hK h64 hy hd];exact oF d h
theorem kE {x y:Nat} (K:Nat) (hx:x<18446744073709551616) (hxn:af x) (hy:y<18446744073709551616) (hyn:af y) (h:ae (x:Nat)≤ae (y:Nat)):uI K x≤uI K y:=by
 have hp:(0:Int)≤((2^K:Nat):Int):=Int.natCast_nonneg _
 unfold uI
 refine Int.mul_le_mul_of_nonneg_right ?_ hp
 rcases vI_rank hx hxn with⟨a1,a2,a3⟩| ⟨a1,a2,a3⟩ <;>rcases vI_rank hy hyn with⟨b1,b2,b3⟩| ⟨b1,b2,b3⟩
 ·rw [a2,b2];have:=xP (r:=x % 9223372036854775808) (s:=y % 9223372036854775808) (by omega);omega
 ·rw [a2,b2]
  have e1:x % 9223372036854775808=0:=by omega
  have e2:y % 9223372036854775808=0:=by omega
  rw [e1,e2,bu];omega
 ·rw [a2,b2];omega
 ·rw [a2,b2];have:=xP (r:=y % 9223372036854775808) (s:=x % 9223372036854775808) (by omega);omega

def dU (n i u0 u1:Int):Int:=(n - i)*u0+i*u1
theorem Cb {n i u0 u1:Int} (h0:0≤i) (h1:i≤n) (h:u0≤u1):u0*n≤dU n i u0 u1∧dU n i u0 u1≤u1*n:=by
 unfold dU
 have a:i*u0≤i*u1:=Int.mul_le_mul_of_nonneg_left h h0
 have b:(n - i)*u0≤(n - i)*u1:=Int.mul_le_mul_of_nonneg_left h (by omega)
 have e0:(n - i)*u0=n*u0 - i*u0:=Int.sub_mul ..
 have e1:(n - i)*u1=n*u1 - i*u1:=Int.sub_mul ..
 rw [Int.mul_comm u0 n,Int.mul_comm u1 n]
 omega
theorem Cc {n i j u0 u1:Int} (h:u0≤u1) (hij:i≤j):dU n i u0 u1≤dU n j u0 u1:=by
 unfold dU
 have a:(j - i)*u0≤(j - i)*u1:=Int.mul_le_mul_of_nonneg_left h (by omega)
 rw [Int.sub_mul,Int.sub_mul] at a
 rw [Int.sub_mul,Int.sub_mul]
 omega
theorem qr (n i u0 u1:Int):dU n i (-u0) (-u1)= -dU n i u0 u1:=by
 unfold dU
 rw [Int.mul_neg,Int.mul_neg];omega
end Go.Proofs.YtjjlnmihkadlmaaGreat
namespace Go.Proofs.YtjjlnmihkadlmaaGreat
open Go.RowKit

def dz (n i u0 u1 u2 u3:Int):Int:=(n - i)*(n - i)*(n - i)*u0+3*(n - i)*(n - i)*i*u1+3*(n - i)*i*i*u2+i*i*i*u3
def wA (n i:Int):Int:=n*n*n - (n - i)*(n - i)*(n - i)
def wB (n i:Int):Int:=i*i*(3*(n - i)+i)
def wC (i:Int):Int:=i*i*i
theorem xl (x:Int):3*x=x+x+x:=by omega
theorem Hw (x:Int):2*x=x+x:=by omega
theorem oG (n i u0 u1 u2 u3:Int):dz n i u0 u1 u2 u3=n*n*n*u0+wA n i*(u1 - u0)+wB n i*(u2 - u1)+wC i*(u3 - u2):=by
 unfold dz wA wB wC
 obtain⟨a,ha⟩:∃ a,n - i=a:=⟨_,rfl⟩
 have hn:n=a+i:=by omega
 rw [ha,hn]
 simp only [xl]
 simp only [Int.mul_add,Int.add_mul,Int.mul_sub,Int.sub_mul,Int.mul_assoc]
 simp only [Int.mul_comm,Int.mul_left_comm]
 omega
theorem xm {i j:Int} (h0:0≤i) (h:i≤j):wC i≤wC j:=by
 unfold wC
 have h1:i*i≤j*j:=Int.mul_le_mul h h h0 (by omega)
 exact Int.mul_le_mul h1 h h0 (Int.mul_nonneg (by omega) (by omega))
theorem EG {n i j:Int} (h:i≤j) (hn:j≤n):wA n i≤wA n j:=by
 unfold wA
 have:=xm (i:=n - j) (j:=n - i) (by omega) (by omega)
 unfold wC at this
 omega
theorem EH (a i t:Int):(i+t)*(i+t)*(3*(a - t)+(i+t)) - i*i*(3*a+i)=t*(3*(i*(2*a - t))+t*(3*a - 2*t)):=by
 simp only [xl,Hw]
 simp only [Int.mul_add,Int.add_mul,Int.mul_sub,Int.mul_assoc]
 simp only [Int.mul_comm,Int.mul_left_comm]
 omega
theorem EI {n i j:Int} (h0:0≤i) (h:i≤j) (hn:j≤n):wB n i≤wB n j:=by
 obtain⟨t,ht⟩:∃ t,j=i+t:=⟨j - i,by omega⟩
 obtain⟨a,ha⟩:∃ a,n - i=a:=⟨_,rfl⟩
 have e:=EH a i t
 unfold wB
 rw [ht,ha,show n - (i+t)=a - t by omega]
 have p1:0≤i*(2*a - t):=Int.mul_nonneg h0 (by omega)
 have p2:0≤t*(3*a - 2*t):=Int.mul_nonneg (by omega) (by omega)
 have p3:0≤t*(3*(i*(2*a - t))+t*(3*a - 2*t)):=Int.mul_nonneg (by omega) (by omega)
 omega
theorem mn {n i j u0 u1 u2 u3:Int} (h0:0≤i) (h:i≤j) (hn:j≤n) (h1:u0≤u1) (h2:u1≤u2) (h3:u2≤u3):dz n i u0 u1 u2 u3≤dz n j u0 u1 u2 u3:=by
 rw [oG,oG]
 have a:=Int.mul_le_mul_of_nonneg_right (EG h hn) (show 0≤u1 - u0 by omega)
 have b:=Int.mul_le_mul_of_nonneg_right (EI h0 h hn) (show 0≤u2 - u1 by omega)
 have c:=Int.mul_le_mul_of_nonneg_right (xm h0 h) (show 0≤u3 - u2 by omega)
 omega
theorem xn (n u0 u1 u2 u3:Int):dz n 0 u0 u1 u2 u3=u0*(n*n*n):=by
 unfold dz
 simp only [Int.sub_zero,Int.mul_zero,Int.zero_mul,Int.add_zero]
 exact Int.mul_comm _ _
theorem xo (n u0 u1 u2 u3:Int):dz n n u0 u1 u2 u3=u3*(n*n*n):=by
 unfold dz
 simp only [Int.sub_self,Int.mul_zero,Int.zero_mul,Int.zero_add]
 exact Int.mul_comm _ _
theorem Gc {n i u0 u1 u2 u3:Int} (h0:0≤i) (h:i≤n) (h1:u0≤u1) (h2:u1≤u2) (h3:u2≤u3):u0*(n*n*n)≤dz n i u0 u1 u2 u3∧dz n i u0 u1 u2 u3≤u3*(n*n*n):=by
 have a:=mn (n:=n) (Int.le_refl 0) h0 h h1 h2 h3
 have b:=mn (n:=n) h0 h (Int.le_refl n) h1 h2 h3
 rw [xn] at a
 rw [xo] at b
 exact⟨a,b⟩
theorem xp (n i u0 u1 u2 u3:Int):dz n i (-u0) (-u1) (-u2) (-u3)= -dz n i u0 u1 u2 u3:=by
 unfold dz
 rw [Int.mul_neg,Int.mul_neg,Int.mul_neg,Int.mul_neg];omega
theorem sK {n i j u0 u1 u2 u3:Int} (h0:0≤i) (h:i≤j) (hn:j≤n) (h1:u1≤u0) (h2:u2≤u1) (h3:u3≤u2):dz n j u0 u1 u2 u3≤dz n i u0 u1 u2 u3:=by
 have:=mn (n:=n) (u0:=-u0) (u1:=-u1) (u2:=-u2) (u3:=-u3) h0 h hn (by omega) (by omega) (by omega)
 rw [xp,xp] at this
 omega
theorem Gd {n i u0 u1 u2 u3:Int} (h0:0≤i) (h:i≤n) (h1:u1≤u0) (h2:u2≤u1) (h3:u3≤u2):u3*(n*n*n)≤dz n i u0 u1 u2 u3∧dz n i u0 u1 u2 u3≤u0*(n*n*n):=by
 have a:=sK (n:=n) (Int.le_refl 0) h0 h h1 h2 h3
 have b:=sK (n:=n) h0 h (Int.le_refl n) h1 h2 h3
 rw [xn] at a
 rw [xo] at b
 exact⟨b,a⟩
theorem Hx {n i j u0 u1:Int} (h:u1≤u0) (hij:i≤j):dU n j u0 u1≤dU n i u0 u1:=by
 have:=Cc (n:=n) (u0:=-u0) (u1:=-u1) (by omega) hij
 rw [qr,qr] at this
 omega
theorem Ge {n i u0 u1:Int} (h0:0≤i) (h1:i≤n) (h:u1≤u0):u1*n≤dU n i u0 u1∧dU n i u0 u1≤u0*n:=by
 have:=Cb (n:=n) (u0:=-u0) (u1:=-u1) h0 h1 (by omega)
 rw [qr,Int.neg_mul,Int.neg_mul] at this
 omega
end Go.Proofs.YtjjlnmihkadlmaaGreat
namespace Go.Proofs.YtjjlnmihkadlmaaGreat

theorem EJ {X X' Y k:Nat} (h:X≤X'):bf X Y k≤bf X' Y k:=by
 unfold bf
 have hA:X*2^k≤X'*2^k:=Nat.mul_le_mul_right _ h
 generalize X*2^k=A at *
 generalize X'*2^k=B at *
 have hq:=Nat.div_le_div_right (c:=Y) hA
 have e1:=Nat.div_add_mod A Y
 have e2:=Nat.div_add_mod B Y
 by_cases hc:A / Y=B / Y
 ·rw [hc] at e1 ⊢
  have:A % Y≤B % Y:=by omega
  split<;>split<;>omega
 ·split<;>split<;>omega
theorem yX {X Y Y' k:Nat} (hY:0<Y) (h:Y≤Y'):bf X Y' k≤bf X Y k:=by
 unfold bf
 generalize X*2^k=A
 have hq:=Nat.div_le_div_left (a:=A) h hY
 have e1:=Nat.div_add_mod A Y
 have e2:=Nat.div_add_mod A Y'
 by_cases hc:A / Y'=A / Y
 ·have hm:Y*(A / Y)≤Y'*(A / Y):=Nat.mul_le_mul_right _ h
  rw [hc] at e2 ⊢
  have:A % Y'≤A % Y:=by omega
  split<;>split<;>omega
 ·split<;>split<;>omega
theorem vC {X Y a b K:Nat} (h:b≤a+K):bf (X*2^a) (Y*2^b) K=bf X Y (a+K - b):=by
 have e:X*2^a*2^K=X*2^(a+K - b)*2^b:=by
  rw [Nat.mul_assoc,← Nat.pow_add,Nat.mul_assoc,← Nat.pow_add,show a+K - b+b=a+K by omega]
 unfold bf
 rw [e,Nat.mul_div_mul_right _ _ (Nat.two_pow_pos b),Nat.mul_mod_mul_right]
 have hp:=Nat.two_pow_pos b
 generalize X*2^(a+K - b) % Y=m
 by_cases hm:m=0
 ·rw [if_pos hm,if_pos (by rw [hm,Nat.zero_mul])]
 ·rw [if_neg hm,if_neg (fun e=>by rcases Nat.mul_eq_zero.1 e with e | e<;>omega)]
def qR (X Y:Nat):Nat:=if X=0 then 0 else nearR (bf X Y 2200) (-2201)
theorem Gf (X Y:Nat):qR X Y≤9218868437227405312:=by
 unfold qR
 split
 ·omega
 ·exact eX _ _
theorem Hy {X X' Y:Nat} (h:X≤X'):qR X Y≤qR X' Y:=by
 unfold qR
 by_cases h0:X=0
 ·rw [if_pos h0];exact Nat.zero_le _
 ·rw [if_neg h0,if_neg (by omega)]
  exact bS _ (EJ h)
theorem EK {X Y Y':Nat} (hY:0<Y) (h:Y≤Y'):qR X Y'≤qR X Y:=by
 unfold qR
 by_cases h0:X=0
 ·rw [if_pos h0,if_pos h0];exact Nat.le_refl _
 ·rw [if_neg h0,if_neg h0]
  exact bS _ (yX hY h)
theorem qw {r:Nat} (h:r<9218868437227405312):pl r≤2046:=by unfold pl;omega
theorem jv {x y:Nat} (hx:af x) (hy:af y) (h1:y % 9223372036854775808≠0):∃ r,floatBits .quo .f64 x y=some r∧RkW r (sgZ (sB x^^sB y) (qR (aV x) (aV y))):=by
 by_cases h0:x % 9223372036854775808=0
 ·refine⟨_,sp h0 hy h1,?_⟩
  have e:aV x=0:=by unfold aV;rw [h0];exact bu
  have e2:qR (aV x) (aV y)=0:=by unfold qR;rw [if_pos e]
  rw [e2]
  exact qt (by omega)
 ·have hpx:=qw hx
  have hpy:=qw hy
  have hk:54+(mg (y % 9223372036854775808)).log2 - (mg (x % 9223372036854775808)).log2≤pl (x % 9223372036854775808)+2200 - pl (y % 9223372036854775808):=by
   have:=lh (y % 9223372036854775808)
   have hl:(mg (y % 9223372036854775808)).log2<53:=(Nat.log2_lt (eD h1)).2 (by omega)
   omega
  refine⟨_,gQ hx hy h0 h1 rfl rfl rfl rfl hk,?_⟩
  have hz:aV x≠0:=by
   intro e
   exact h0 (jq e)
  have e2:qR (aV x) (aV y)=nearR (bf (mg (x % 9223372036854775808)) (mg (y % 9223372036854775808)) (pl (x % 9223372036854775808)+2200 - pl (y % 9223372036854775808))) (-1074+(pl (x % 9223372036854775808):Int) - (-1074+(pl (y % 9223372036854775808):Int)) - 1 - ((pl (x % 9223372036854775808)+2200 - pl (y % 9223372036854775808):Nat):Int)):=by
   unfold qR
   rw [if_neg hz]
   unfold aV V
   rw [vC (by omega)]
   congr 1
   omega
  rw [e2]
  exact qt (eX _ _)
end Go.Proofs.YtjjlnmihkadlmaaGreat
namespace Go.Proofs.YtjjlnmihkadlmaaGreat
open Go.RowKit

theorem Cu (k:Nat):ic (k+1)=ic k*max k 1:=rfl
theorem Cw {k:Nat}:(k≤1→ic (k+1)=ic k)∧(1<k→ic (k+1)=ic k*k):=by
 rw [Cu]
 refine⟨fun h=>?_,fun h=>?_⟩
 ·rw [show max k 1=1 by omega,Nat.mul_one]
 ·rw [show max k 1=k by omega]
theorem expL_len:expL.length=14:=by decide
theorem Cx:FitL expL:=by unfold FitL;decide

set_option maxRecDepth 20000 in
set_option maxHeartbeats 1600000 in
theorem ze (w:World) :
  Calls Tryz.prog 176 #[] w fun e w'=>∃ v,e=.returned v∧OwnF w' w.heap.size 57 uV v expL∧Below w.heap.size w w':=by
 obtain⟨i0,hi,hz0,hz1,hz2⟩:=info_parts infoU
 go_enter Tryz.func176,Tryz.ntmps176
 go_wp2
 go_loopw [1,2,3] (fun v s i wr=>∃ k f:Nat,k≤14∧i=.int .i64 k∧s=.int .i64 f∧Hid (f=ic k)∧Hid (wr.ownsRow w.heap.size 57 1 v k (rowOf uV expL k))∧Hid (Below w.heap.size w wr)) (fun _ _ i _=>14 - (intOf i).toNat)
 case atStart=>exact⟨0,1,Nat.zero_le _,rfl,rfl,rfl,World.ownsRow_nil _ _ _ _,Below.refl _ _⟩
 case round=>
  obtain⟨k,f,hk,rfl,rfl,HF,hown,HB⟩:=hrel
  by_cases hlt:k<14
  ·have hx:k<expL.length:=by rw [expL_len];exact hlt
   have HT:=hideS (take_next (f:=uV) hx)
   have hfb:=qA k (by omega)
   rw [← HF.out] at hfb
   obtain⟨hf1,hf2⟩:=hfb
   have hfb2:=qA (k+1) (by omega)
   obtain⟨f2,hf⟩:∃ f2,ic (k+1)=f2:=⟨_,rfl⟩
   rw [hf] at hfb2
   obtain⟨hf3,hf4⟩:=hfb2
   have HF2:=hideS hf.symm
   obtain⟨fz,hfz⟩:∃ fz:Int,(fi (f2:Int):Int)=fz:=⟨_,rfl⟩
   obtain⟨x,hxx⟩:∃ x,expL.getD k 0=x:=⟨_,rfl⟩
   obtain⟨xi,hxi⟩:∃ xi:Int,(x:Int)=xi:=⟨_,rfl⟩
   have HInt:Hid (∀ w,Calls Tryz.prog 170 #[.int .i64 (f2:Int)] w fun e w'=>e=.returned (.int .u64 fz)∧Below w.heap.size w w'):=fun w=>by
    have:=iD (f2:Int) w (by omega) (by omega)
    rw [hfz] at this;exact this
   have HDiv:Hid (∀ w,Calls Tryz.prog 64 #[.int .u64 4607182418800017408,.int .u64 fz] w fun e w'=>e=.returned (.int .u64 xi)∧Below w.heap.size w w'):=fun w=>by
    have:=iE 4607182418800017408 (fi (f2:Int)) 4607182418800017408 fz w rfl hfz.symm (by unfold U64;omega) (by rw [← hfz];exact an (rW (a:=(f2:Int)) rfl (by omega) (by omega)).2.2.2)
    have e:=xu k hlt
    rw [hf,hxx] at e
    rw [e,ar,hxi] at this;exact this
   rw [hxx] at HT
   have HXI:=hideS hxi
   clear hx hf hfz hxx hxi
   have hsz:=HB.out.size
   have hfs:=Cw (k:=k)
   rw [← HF2.out,← HF.out] at hfs
   have key:∀ (w1:World) (hb1:Below wr.heap.size wr w1),True:=fun _ _=>trivial
   clear key
   rcases (show k≤1∨1<k by omega) with hk1 | hk1
   ·have hff:=hfs.1 hk1
    subst hff
    clear hfs
    go_wp2_with fail
    refine (HInt.out _).mono ?_
    rintro e w1 ⟨rfl,hb1⟩
    have HB1:=hideS hb1
    clear hb1
    go_wp2_with fail
    refine (HDiv.out _).mono ?_
    rintro e w2 ⟨rfl,hb2⟩
    have HB2:=hideS (HB1.out.trans (hb2.mono HB1.out.size))
    have HO2:=hideS (own_below hown.out HB2.out)
    have HBw:=hideS (HB.out.trans (HB2.out.mono hsz))
    have hsz2:=HBw.out.size
    clear hb2 HB1 hown
    go_wp2_with (at_builtin;refine wpList_append_own _ rfl _ _ 30 rfl w.heap.size 57 i0 (.int .u64 0) 1 8 Tryz.underlying30 hi hz0 hz1 hz2 rfl (by decide) _ _ _ rfl (HO2.out.alloc _) ⟨w2.heap.size,0,none⟩ 1 1 [.int .u64 xi] rfl rfl ?c1 ?c2 ?c3 ?c4 ?c5 ?_)
    case c1=>
     intro j u hj
     match j,hj with
     | 0,hj=>simp at hj;subst hj;simp [Addr.add]
    case c2=>intro u hu;simp at hu;subst hu;rfl
    case c3=>unfold maxLen;omega
    case c4=>omega
    case c5=>simp;omega
    ·intro v' w3 hown' hgrow _
     have hlow:=HO2.out.lt
     have hb3:Below w.heap.size w w3:=(HBw.out.alloc hsz2 _).grown hgrow (by simp;omega) (fun j hj=>(hlow j hj).1)
     rw [← HXI.out,show Value.int IntKind.u64 (x:Int)=uV x from rfl,← HT.out] at hown'
     have HO:=hideS hown'
     have HB3:=hideS hb3
     clear hown' hgrow hlow hb3
     go_wp2
     go_roundw
     case rel=>exact⟨k+1,_,by omega,by simp,rfl,HF2,HO,HB3⟩
     case measure=>simp [intOf];omega
   ·have hff:=hfs.2 hk1
    have hmul:(f:Int)*(k:Int)=(f2:Int):=by rw [hff,Int.natCast_mul]
    clear hfs hff
    go_wp2_with fail
    refine (HInt.out _).mono ?_
    rintro e w1 ⟨rfl,hb1⟩
    have HB1:=hideS hb1
    clear hb1
    go_wp2_with fail
    refine (HDiv.out _).mono ?_
    rintro e w2 ⟨rfl,hb2⟩
    have HB2:=hideS (HB1.out.trans (hb2.mono HB1.out.size))
    have HO2:=hideS (own_below hown.out HB2.out)
    have HBw:=hideS (HB.out.trans (HB2.out.mono hsz))
    have hsz2:=HBw.out.size
    clear hb2 HB1 hown
    go_wp2_with (at_builtin;refine wpList_append_own _ rfl _ _ 30 rfl w.heap.size 57 i0 (.int .u64 0) 1 8 Tryz.underlying30 hi hz0 hz1 hz2 rfl (by decide) _ _ _ rfl (HO2.out.alloc _) ⟨w2.heap.size,0,none⟩ 1 1 [.int .u64 xi] rfl rfl ?c1 ?c2 ?c3 ?c4 ?c5 ?_)
    case c1=>
     intro j u hj
     match j,hj with
     | 0,hj=>simp at hj;subst hj;simp [Addr.add]
    case c2=>intro u hu;simp at hu;subst hu;rfl
    case c3=>unfold maxLen;omega
    case c4=>omega
    case c5=>simp;omega
    ·intro v' w3 hown' hgrow _
     have hlow:=HO2.out.lt
     have hb3:Below w.heap.size w w3:=(HBw.out.alloc hsz2 _).grown hgrow (by simp;omega) (fun j hj=>(hlow j hj).1)
     rw [← HXI.out,show Value.int IntKind.u64 (x:Int)=uV x from rfl,← HT.out] at hown'
     have HO:=hideS hown'
     have HB3:=hideS hb3
     clear hown' hgrow hlow hb3
     go_wp2
     go_roundw
     case rel=>exact⟨k+1,_,by omega,by simp,rfl,HF2,HO,HB3⟩
     case measure=>simp [intOf];omega
  ·obtain rfl:k=14:=by omega
   go_wp2
   go_ret
   have h1:=hown.out
   rw [show (14:Nat)=expL.length from expL_len.symm,rowOf_all] at h1
   exact⟨_,rfl,⟨h1⟩,HB.out⟩
end Go.Proofs.YtjjlnmihkadlmaaGreat
namespace Go.Proofs.YtjjlnmihkadlmaaGreat
open Go.RowKit

theorem EQ (r:Nat):eB (r:Int)=(mg r:Int):=by
 unfold eB mg
 by_cases c:r<4503599627370496
 ·rw [if_pos c,if_pos (by omega)]
 ·rw [if_neg c,if_neg (by omega)];omega
theorem ER (r:Nat):ir (r:Int)= -1074+(pl r:Int):=by
 unfold ir pl
 by_cases c:r<4503599627370496
 ·rw [if_pos (by omega)];omega
 ·rw [if_neg (by omega)];omega
theorem sX {p:Nat} {neg:Bool} {N:Nat} {e:Int} (h:OfR p neg N e) (h64:p<18446744073709551616) (hn:af p) (h0:N≠0):aC (p:Int)=sg neg N∧aP (p:Int)=e∧neg=sB p:=by
 obtain⟨m1,m2⟩:=h.mag h0
 have hsz:=fw p
 unfold af at hn
 have hok:aD (p:Int)=true:=by unfold aD;rw [hsz];simp;omega
 have hr0:p % 9223372036854775808≠0:=by
  intro e0;rw [e0] at m1;exact h0 (by rw [m1];decide)
 refine⟨?_,?_,h.sgn h0⟩
 ·unfold aC
  rw [hok,if_pos rfl,hsz,EQ,← m1,ek h64,← h.sgn h0]
  rfl
 ·unfold aP
  rw [hok,hsz,ER,← m2,show decide (((p % 9223372036854775808:Nat):Int)≠0)=true by simpa using fun h=>hr0 (by omega)]
  rfl
theorem ES {p:Nat} {neg:Bool} {N:Nat} {e k:Int} (h:OfR p neg N e) (h64:p<18446744073709551616) (hn:af p) (hv:0≤vI p):bO neg N (e+k) false=(aG (aC p) (aP p+k):Int):=by
 by_cases h0:N=0
 ·have hz:p % 9223372036854775808=0:=by
   have:=h.val
   rw [h0,Nat.zero_mul] at this
   exact jq this.symm
  have hs:aC (p:Int)=0:=by
   unfold aC
   rw [fw,hz]
   unfold eB
   split
   ·split<;>simp
   ·rfl
  rw [hs,h0]
  rfl
 ·obtain⟨s1,s2,s3⟩:=sX h h64 hn h0
  have hneg:neg=false:=by
   cases hneg:neg with
   | false=>rfl
   | true=>
    exfalso
    have ha:aV p≠0:=by
     rw [← h.val]
     have:=Nat.mul_pos (show 0<N by omega) (Nat.two_pow_pos (e+1074).toNat);omega
    rw [rY,← s3,hneg] at hv
    unfold sg at hv;simp at hv;omega
  rw [s1,s2,hneg,eN false _ h0,if_neg (by decide)]
  unfold sg aG
  simp only [Bool.false_eq_true,if_false]
  rw [if_neg (by omega),if_neg (by omega),Int.natAbs_natCast];omega

set_option maxHeartbeats 800000 in
theorem vK (u:Int) (w:World) (h:U64 u) (hn:ag u=true) :
  Calls Tryz.prog 141 #[.int .u64 u] w fun e w'=>e=.returned (.int .u64 9221120237041090561)∧Below w.heap.size w w':=by
 have H:=hideS (ah u w h)
 rw [hn] at H
 clear h hn
 go_enter Tryz.func141,Tryz.ntmps141
 go_wp2_with fail
 refine (turned H.out).mono ?_
 rintro e w' ⟨rfl,rfl⟩
 go_wp2_with fail
 go_ret
 exact⟨rfl,Below.refl _ _⟩
theorem dd (n z:Int) (w:World) (h0: -9223372036854775808≤n) (h1:n≤9223372036854775807) (hz:(fi n:Int)=z) :
  Calls Tryz.prog 170 #[.int .i64 n] w fun e w'=>e=.returned (.int .u64 z)∧Below w.heap.size w w':=by
 rw [← hz];exact iD n w h0 h1

set_option maxHeartbeats 800000 in
theorem zf (u:Int) (w:World) (h:U64 u) (hn:ag u=false) (hl:decide (ae u<ae 4649456441864749056)=false) :
  Calls Tryz.prog 141 #[.int .u64 u] w fun e w'=>e=.returned (.int .u64 9218868437227405312)∧Below w.heap.size w w':=by
 have H:=hideS (ah u w h)
 have HI:=hideS fun w=>dd 710 4649456441864749056 w (by omega) (by omega) (by rw [EP];rfl)
 have HL:=hideS fun w=>eQ u 4649456441864749056 false w h (by unfold U64;omega) hn (by decide) hl
 rw [hn] at H
 clear h hn hl
 go_enter Tryz.func141,Tryz.ntmps141
 go_wp2_with fail
 refine (turned H.out).mono ?_
 rintro e w' ⟨rfl,rfl⟩
 go_wp2_with fail
 refine (HI.out _).mono ?_
 rintro e w1 ⟨rfl,hb⟩
 have HB:=hideS hb
 clear hb
 go_wp2_with fail
 refine (HL.out _).mono ?_
 rintro e w' ⟨rfl,rfl⟩
 go_wp2_with fail
 go_ret
 exact⟨rfl,HB.out⟩

set_option maxHeartbeats 800000 in
theorem zg (u:Int) (w:World) (h:U64 u) (hn:ag u=false) (hl:decide (ae u<ae 4649456441864749056)=true) (hl2:decide (ae 13873145138068324352<ae u)=false) :
  Calls Tryz.prog 141 #[.int .u64 u] w fun e w'=>e=.returned (.int .u64 0)∧Below w.heap.size w w':=by
 have H:=hideS (ah u w h)
 have HI:=hideS fun w=>dd 710 4649456441864749056 w (by omega) (by omega) (by rw [EP];rfl)
 have HL:=hideS fun w=>eQ u 4649456441864749056 true w h (by unfold U64;omega) hn (by decide) hl
 have HI2:=hideS fun w=>dd (-746) 13873145138068324352 w (by omega) (by omega) (by rw [Gl];rfl)
 have HL2:=hideS fun w=>eQ 13873145138068324352 u false w (by unfold U64;omega) h (by decide) hn hl2
 rw [hn] at H
 clear h hn hl hl2
 go_enter Tryz.func141,Tryz.ntmps141
 go_wp2_with fail
 refine (turned H.out).mono ?_
 rintro e w' ⟨rfl,rfl⟩
 go_wp2_with fail
 refine (HI.out _).mono ?_
 rintro e w1 ⟨rfl,hb⟩
 have HB:=hideS hb
 clear hb
 go_wp2_with fail
 refine (HL.out _).mono ?_
 rintro e w' ⟨rfl,rfl⟩
 go_wp2_with fail
 refine (HI2.out _).mono ?_
 rintro e w2 ⟨rfl,hb⟩
 have HB2:=hideS (HB.out.trans (hb.mono HB.out.size))
 clear hb
 go_wp2_with fail
 refine (HL2.out _).mono ?_
 rintro e w' ⟨rfl,rfl⟩
 go_wp2_with fail
 go_ret
 exact⟨rfl,HB2.out⟩

theorem eF {op:BinOp} (ho:op=.add∨op=.sub∨op=.mul∨op=.quo) {x y r:Nat} {z:Int} (h:floatBits op .f64 x y=some r) (hz:z=(r:Int)):U64 z:=by rw [hz];exact an (jm ho h)
theorem ke {x y r:Nat} {u v z:Int} (hu:u=(x:Int)) (hv:v=(y:Int)) (h:U64 u) (h':U64 v) (hr:floatBits .mul .f64 x y=some r) (hz:z=(r:Int)) (w:World) :
  Calls Tryz.prog 135 #[.int .u64 u,.int .u64 v] w fun e w'=>e=.returned (.int .u64 z)∧Below w.heap.size w w':=by
 have:=iA x y u v w hu hv h h'
 rw [hr,ar,← hz] at this;exact this
theorem Cy {x y r:Nat} {u v z:Int} (hu:u=(x:Int)) (hv:v=(y:Int)) (h:U64 u) (h':U64 v) (hr:floatBits .add .f64 x y=some r) (hz:z=(r:Int)) (w:World) :
  Calls Tryz.prog 172 #[.int .u64 u,.int .u64 v] w fun e w'=>e=.returned (.int .u64 z)∧Below w.heap.size w w':=by
 have:=fG x y u v w hu hv h h'
 rw [hr,ar,← hz] at this;exact this
theorem vM {x y r:Nat} {u v z:Int} (hu:u=(x:Int)) (hv:v=(y:Int)) (h:U64 u) (h':U64 v) (hr:floatBits .sub .f64 x y=some r) (hz:z=(r:Int)) (w:World) :
  Calls Tryz.prog 173 #[.int .u64 u,.int .u64 v] w fun e w'=>e=.returned (.int .u64 z)∧Below w.heap.size w w':=by
 have:=uX x y u v w hu hv h h'
 rw [hr,ar,← hz] at this;exact this
set_option maxRecDepth 20000 in
set_option maxHeartbeats 1600000 in
theorem vN (x y t hi lo d r p:Nat) (u k res:Int) (K:Nat) (w:World) (hu:u=(x:Int)) (h:U64 u) (hn:ag u=false) (hl:decide (ae u<ae 4649456441864749056)=true) (hl2:decide (ae 13873145138068324352<ae u)=true)
  (q1:floatBits .mul .f64 x 4609176140021203710=some y) (q2:floatBits .add .f64 y 4602678819172646912=some t) (tn:af t) (hK:K=1074) (f1:k*((2^K:Nat):Int)≤vI t) (f2:vI t<(k+1)*((2^K:Nat):Int)) (k1: -2000≤k) (k2:k≤2000)
  (q3:floatBits .mul .f64 (fi k) 4604418534311723008=some hi) (q4:floatBits .mul .f64 (fi k) 4461442080421002358=some lo) (q5:floatBits .sub .f64 x hi=some d) (q6:floatBits .sub .f64 d lo=some r) (q7:aS expL r=some p) (pn:af p) (p64:p<18446744073709551616) (pv:0≤vI p) (hres:(aG (aC p) (aP p+k):Int)=res) :
  Calls Tryz.prog 141 #[.int .u64 u] w fun e w'=>e=.returned (.int .u64 res)∧Below w.heap.size w w':=by
 have H:=hideS (ah u w h)
 have HI:=hideS fun w=>dd 710 4649456441864749056 w (by omega) (by omega) (by rw [EP];rfl)
 have HL:=hideS fun w=>eQ u 4649456441864749056 true w h (by unfold U64;omega) hn (by decide) hl
 have HI2:=hideS fun w=>dd (-746) 13873145138068324352 w (by omega) (by omega) (by rw [Gl];rfl)
 have HL2:=hideS fun w=>eQ 13873145138068324352 u true w (by unfold U64;omega) h (by decide) hn hl2
 rw [hn] at H
 obtain⟨yi,hy⟩:∃ yi:Int,yi=(y:Int):=⟨_,rfl⟩
 obtain⟨ti,ht⟩:∃ ti:Int,ti=(t:Int):=⟨_,rfl⟩
 obtain⟨fz,hf⟩:∃ fz:Int,fz=(fi k:Int):=⟨_,rfl⟩
 obtain⟨hii,hhi⟩:∃ hii:Int,hii=(hi:Int):=⟨_,rfl⟩
 obtain⟨loi,hlo⟩:∃ loi:Int,loi=(lo:Int):=⟨_,rfl⟩
 obtain⟨di,hd⟩:∃ di:Int,di=(d:Int):=⟨_,rfl⟩
 obtain⟨ri,hr⟩:∃ ri:Int,ri=(r:Int):=⟨_,rfl⟩
 obtain⟨pi,hp⟩:∃ pi:Int,pi=(p:Int):=⟨_,rfl⟩
 have uf:U64 fz:=by rw [hf];exact an (rW (a:=k) rfl (by omega) (by omega)).2.2.2
 have M1:=hideS fun w=>ke (z:=yi) hu (v:=4609176140021203710) rfl h (by unfold U64;omega) q1 hy w
 have A1:=hideS fun w=>Cy (z:=ti) hy (v:=4602678819172646912) rfl (eF (by simp) q1 hy) (by unfold U64;omega) q2 ht w
 have FL:=hideS fun w=>sj t ti k K w ht (eF (by simp) q2 ht) tn hK f1 f2 k1 k2
 have IK:=hideS fun w=>dd k fz w (by omega) (by omega) hf.symm
 have M2:=hideS fun w=>ke (z:=hii) hf (v:=4604418534311723008) rfl uf (by unfold U64;omega) q3 hhi w
 have S1:=hideS fun w=>vM (z:=di) hu hhi h (eF (by simp) q3 hhi) q5 hd w
 have M3:=hideS fun w=>ke (z:=loi) hf (v:=4461442080421002358) rfl uf (by unfold U64;omega) q4 hlo w
 have S2:=hideS fun w=>vM (z:=ri) hd hlo (eF (by simp) q5 hd) (eF (by simp) q4 hlo) q6 hr w
 have HH:Hid (∀ B v w,OwnF w B 57 uV v expL→Calls Tryz.prog 175 #[v,.int .u64 ri] w fun e w'=>e=.returned (.int .u64 pi)∧Below w.heap.size w w'):=fun B v w hO=>by
  have:=ik B 14 r v ri expL w hO Cx hr (eF (by simp) q6 hr) expL_len (by decide)
  rw [q7,ar,← hp] at this;exact this
 have HO:=hideS fun w=>eC p pi w hp (by rw [hp];exact an p64) pn
 have HEnd:Hid (∀ neg N e,OfR p neg N e→bO neg N (e+k) false=res∧N<9007199254740992∧-1074≤e∧e≤971):=fun neg N e ho=>⟨by rw [← hres];exact ES ho p64 pn pv,ho.lt,ho.lo,ho.hi⟩
 clear h hn hl hl2 hu q1 q2 tn hK f1 f2 q3 q4 q5 q6 q7 pn p64 pv hres hy ht hf hhi hlo hd hr hp uf
 go_enter Tryz.func141,Tryz.ntmps141
 go_wp2_with fail
 refine (turned H.out).mono ?_
 rintro e w' ⟨rfl,rfl⟩
 go_wp2_with fail
 refine (HI.out _).mono ?_
 rintro e w1 ⟨rfl,hb⟩
 have B1:=hideS hb
 clear hb
 go_wp2_with fail
 refine (HL.out _).mono ?_
 rintro e w' ⟨rfl,rfl⟩
 go_wp2_with fail
 refine (HI2.out _).mono ?_
 rintro e w2 ⟨rfl,hb⟩
 have B2:=hideS (B1.out.trans (hb.mono B1.out.size))
 clear hb B1
 go_wp2_with fail
 refine (HL2.out _).mono ?_
 rintro e w' ⟨rfl,rfl⟩
 go_wp2_with fail
 refine (M1.out _).mono ?_
 rintro e w3 ⟨rfl,hb⟩
 have B3:=hideS (B2.out.trans (hb.mono B2.out.size))
 clear hb B2
 go_wp2_with fail
 refine (A1.out _).mono ?_
 rintro e w4 ⟨rfl,hb⟩
 have B4:=hideS (B3.out.trans (hb.mono B3.out.size))
 clear hb B3
 go_wp2_with fail
 refine (FL.out _).mono ?_
 rintro e w5 ⟨rfl,hb⟩
 have B5:=hideS (B4.out.trans (hb.mono B4.out.size))
 clear hb B4
 go_wp2_with fail
 refine (IK.out _).mono ?_
 rintro e w6 ⟨rfl,hb⟩
 have B6:=hideS (B5.out.trans (hb.mono B5.out.size))
 clear hb B5
 go_wp2_with fail
 refine (M2.out _).mono ?_
 rintro e w7 ⟨rfl,hb⟩
 have B7:=hideS (B6.out.trans (hb.mono B6.out.size))
 clear hb B6
 go_wp2_with fail
 refine (S1.out _).mono ?_
 rintro e w8 ⟨rfl,hb⟩
 have B8:=hideS (B7.out.trans (hb.mono B7.out.size))
 clear hb B7
 go_wp2_with fail
 refine (M3.out _).mono ?_
 rintro e w9 ⟨rfl,hb⟩
 have B9:=hideS (B8.out.trans (hb.mono B8.out.size))
 clear hb B8
 go_wp2_with fail
 refine (S2.out _).mono ?_
 rintro e w10 ⟨rfl,hb⟩
 have B10:=hideS (B9.out.trans (hb.mono B9.out.size))
 clear hb B9
 go_wp2_with fail
 refine (ze _).mono ?_
 rintro e w11 ⟨v,rfl,hO,hb⟩
 have B11:=hideS (B10.out.trans (hb.mono B10.out.size))
 have HO11:=hideS (HH.out _ _ _ hO)
 clear hb B10 hO HH
 go_wp2_with fail
 refine HO11.out.mono ?_
 rintro e w12 ⟨rfl,hb⟩
 have B12:=hideS (B11.out.trans (hb.mono B11.out.size))
 clear hb B11 HO11
 go_wp2_with fail
 refine (HO.out _).mono ?_
 rintro e w13 ⟨neg,vx,N,ee,rfl,hdx,hX,hb⟩
 obtain⟨pp,l,c,rfl⟩:=hdx.shape
 obtain⟨e1,e2,e3,e4⟩:=HEnd.out neg N ee hX
 have B13:=hideS (B12.out.trans (hb.mono B12.out.size))
 have HNr:Hid (Calls Tryz.prog 164 #[.agg #[.bool neg,.slice pp l c,.int .i64 (ee+k)]] (boxN w13 neg (.slice pp l c) (ee+k)) fun x w'=>x=.returned (.int .u64 res)∧Below (boxN w13 neg (.slice pp l c) (ee+k)).heap.size (boxN w13 neg (.slice pp l c) (ee+k)) w'):=by
  rw [← e1]
  exact gj neg _ (ee+k) N _ (hdx.below (aH _ _ _ _)) (by have:=dy e2;omega) (by omega) (by omega)
 have B14:=hideS (B13.out.trans ((aH w13 neg (.slice pp l c) (ee+k)).mono B13.out.size))
 clear hb B12 hdx hX e1 e2 HEnd B13
 go_wp2_with fail
 refine HNr.out.mono ?_
 rintro e w15 ⟨rfl,hb⟩
 have B15:=hideS (B14.out.trans (hb.mono B14.out.size))
 clear hb B14
 go_wp2_with fail
 go_ret
 exact⟨rfl,B15.out⟩
end Go.Proofs.YtjjlnmihkadlmaaGreat
namespace Go.Proofs.YtjjlnmihkadlmaaGreat
open Go.RowKit

theorem Ib {o:Option Nat} {r:Nat} (h:Ag o r) (ho:∀ q,o=some q→q<18446744073709551616):r<18446744073709551616:=by
 cases o with
 | none=>exact (fB h).2
 | some q=>rw [dh h];exact ho q rfl
end Go.Proofs.YtjjlnmihkadlmaaGreat
namespace Go.Proofs.YtjjlnmihkadlmaaGreat
open Go.RowKit

structure Both (f g:Nat) (x:Nat) (u:Int) (y:Nat) (z:Int):Prop where
 prog:∀ w,Calls Tryz.prog f #[.float .f64 x] w fun e w'=>e=.returned (.float .f64 y)∧Below w.heap.size w w'
 doc:∀ w,Calls Tryz.prog g #[.int .u64 u] w fun e w'=>e=.returned (.int .u64 z)∧Below w.heap.size w w'
 same:dA (y:Int) z=true
 uy:U64 (y:Int)
 uz:U64 z
theorem mI {f:Nat} {args:Array Value} {v:Value} {w:World} (h:Calls Tryz.prog f args w fun e w'=>e=.returned v∧w'=w):Calls Tryz.prog f args w fun e w'=>e=.returned v∧Below w.heap.size w w':=
 h.mono fun _ _ ⟨a,b⟩=>⟨a,by rw [b];exact Below.refl _ _⟩
theorem zj {y:Nat} {z:Int} (h:z=(y:Int)):dA (y:Int) z=true:=by rw [h];exact io _
theorem sZ (m e:Int):aG m e<18446744073709551616:=by
 unfold aG
 have h1:=gh m.natAbs e
 split
 ·decide
 ·split<;>omega

theorem zk (x:Nat) (u:Int) (hu:u=(x:Int)) (h:U64 x):∃ y z,Both 194 141 x u y z∧(ag (x:Int)=true→z=9221120237041090561)∧(ag (x:Int)=false→y≤9218868437227405312∧z=(y:Int)):=by
 have hx64:x<18446744073709551616:=by have:=h.2;omega
 have h':U64 u:=by rw [hu];exact h
 cases hn:ag (x:Int) with
 | true=>exact⟨x,9221120237041090561,⟨fun w=>mI (EM x w h hn),fun w=>vK u w h' (by rw [hu];exact hn),xN hn lQ,h,by unfold U64;omega⟩,fun _=>rfl,fun a=>by cases a⟩
 | false=>
  have hn':ag u=false:=by rw [hu];exact hn
  have u1:U64 ((4649456441864749056:Nat):Int):=by unfold U64;omega
  have u2:U64 ((13873145138068324352:Nat):Int):=by unfold U64;omega
  have n1:ag ((4649456441864749056:Nat):Int)=false:=by decide+kernel
  have n2:ag ((13873145138068324352:Nat):Int)=false:=by decide+kernel
  have g1:=gE h u1 hn n1
  have e1:=eg h u1 hn n1
  have g2:=iU h u2 hn n2
  have e2:=eg h u2 hn n2
  have r1:ae ((4649456441864749056:Nat):Int)=4649456441864749056:=by decide+kernel
  have r2:ae ((13873145138068324352:Nat):Int)= -4649773101213548544:=by decide+kernel
  have r1':ae (4649456441864749056:Int)=4649456441864749056:=by decide+kernel
  have r2':ae (13873145138068324352:Int)= -4649773101213548544:=by decide+kernel
  rw [r1] at g1 e1
  rw [r2] at g2 e2
  by_cases c1:4649456441864749056≤ae (x:Int)
  ·refine⟨9218868437227405312,9218868437227405312,⟨fun w=>mI (Gi x _ _ w h hn g1 e1 ?_),fun w=>zf u w h' hn' ?_,rfl,by unfold U64;omega,by unfold U64;omega⟩,fun a=>(by cases a),fun _=>⟨Nat.le_refl _,rfl⟩⟩
   ·simp only [Bool.or_eq_true,decide_eq_true_eq];omega
   ·rw [r1',hu,decide_eq_false_iff_not];omega
  have f1:(FloatKind.f64.format.order x 4649456441864749056==some .gt)=false:=by rw [g1,decide_eq_false_iff_not];omega
  have f2:(FloatKind.f64.format.order x 4649456441864749056==some .eq)=false:=by rw [e1,decide_eq_false_iff_not];omega
  have d1:decide (ae u<ae 4649456441864749056)=true:=by rw [r1',hu,decide_eq_true_eq];omega
  by_cases c2:ae (x:Int)≤-4649773101213548544
  ·refine⟨0,0,⟨fun w=>mI (Gj x _ _ w h hn f1 f2 g2 e2 ?_),fun w=>zg u w h' hn' d1 ?_,rfl,by unfold U64;omega,by unfold U64;omega⟩,fun a=>(by cases a),fun _=>⟨Nat.zero_le _,rfl⟩⟩
   ·simp only [Bool.or_eq_true,decide_eq_true_eq];omega
   ·rw [r2',hu,decide_eq_false_iff_not];omega
  have f3:(FloatKind.f64.format.order x 13873145138068324352==some .lt)=false:=by rw [g2,decide_eq_false_iff_not];omega
  have f4:(FloatKind.f64.format.order x 13873145138068324352==some .eq)=false:=by rw [e2,decide_eq_false_iff_not];omega
  have d2:decide (ae 13873145138068324352<ae u)=true:=by rw [r2',hu,decide_eq_true_eq];omega
  obtain⟨K,g,hs⟩:=Ia
  have hxn:af x:=by
   have hl:=dF hn
   rw [← bK hx64 hn] at c1 c2
   unfold af
   unfold sgn at c1 c2
   generalize x % 9223372036854775808=r at *
   generalize (x / 9223372036854775808 % 2==1)=s at c1 c2
   cases s<;>simp only [Bool.false_eq_true,if_true,if_false] at c1 c2<;>omega
  obtain⟨w1,w2,w3⟩:=jx hs (m:=710) (by decide) (by decide)
  obtain⟨v1,v2,v3⟩:=jx hs (m:=-746) (by decide) (by decide)
  rw [EP] at w1 w2 w3
  rw [Gl] at v1 v2 v3
  have b1:=mH hxn w2 hx64 w3 (by rw [r1];omega)
  have b2:=mH v2 hxn v3 hx64 (by rw [r2];omega)
  rw [w1] at b1
  rw [v1] at b2
  obtain⟨y,t,hi,lo,d,r,k,q1,q2,tn,q3,kf1,kf2,k1,k2,q4,q5,q6,q7,rn,_,r1,r2⟩:=zb hs hxn (by omega) (by omega)
  obtain⟨p,p0,pn,p64,pv⟩:=Cr hs rn r1 r2
  obtain⟨s1,s2,s3,s4⟩:=Gk pn p64 pv
  refine⟨aG (aC p) (aP p+k),(aG (aC p) (aP p+k):Int),⟨fun w=>EN x y t (fi k) hi lo d r p k w h hn f1 f2 f3 f4 q1 q2 (fun w=>Cm t _ w tn q3) q4 q5 q6 q7 p0 (an p64) (Ct k1 k2) ⟨k1,k2⟩ ⟨s3,s4⟩ (EO s1 s2),fun w=>vN x y t hi lo d r p u k _ K w hu h' hn' d1 d2 q1 q2 tn hs.k kf1 kf2 k1 k2 q4 q5 q6 q7 p0 pn p64 pv rfl,zj rfl,an (sZ _ _),an (sZ _ _)⟩,fun a=>(by cases a),fun _=>⟨Cs s1,rfl⟩⟩

end Go.Proofs.YtjjlnmihkadlmaaGreat
