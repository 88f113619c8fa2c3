/-  -/
import Derived.Test.YtcmbfflemoccmaaGreatHak
import Derived.Test.YtcmbfflemoccmaaGreatHaj
import Derived.Laws.BitsAllLaws
import Derived.Laws.Bits64b
import Derived.BigQuiet
namespace Go.Proofs.YtcmbfflemoccmaaGreat
open Go.RowKit

theorem lG {w w1:World} {P Q:Int} {t:TypeId} (h:Below w.heap.size w w1) :
  (w1.alloc (.cells #[.int .i64 P,.int .i64 Q] t)).cell? ⟨w1.heap.size,0,none⟩=some (.int .i64 P)∧(w1.alloc (.cells #[.int .i64 P,.int .i64 Q] t)).cell? ⟨w1.heap.size,1,none⟩=some (.int .i64 Q)∧Below w.heap.size w (w1.alloc (.cells #[.int .i64 P,.int .i64 Q] t)):=
 ⟨by simp,by simp,h.alloc h.size _⟩

set_option maxHeartbeats 1600000 in
theorem yJ (kind W a b A:Int) (v:Value) (w:World) (hA:0<A) (hA':A≤100)
  (HF:Hid (∀ wx,Below w.heap.size w wx→Calls Tryz.prog 64 #[.int .i64 kind,.agg #[.int .i64 W,v],.int .i64 a,.int .i64 b] wx fun e w'=>e=.returned (.tuple #[.agg #[.int .i64 0,.int .i64 0],.int .i64 A])∧Below wx.heap.size wx w')) :
  Calls Tryz.prog 42 #[.int .i64 kind,.agg #[.int .i64 W,v],.int .i64 a,.int .i64 b] w fun e w'=>e=.returned (.tuple #[.int .u64 0,.int .i64 A])∧Below w.heap.size w w':=by
 have HB0:Hid (Below w.heap.size w (w.alloc (.cells #[.int .i64 W,v] 44))):=(Below.refl w.heap.size w).alloc (Nat.le_refl _) _
 go_enter Tryz.func42,Tryz.ntmps42
 go_wp2_with fail
 refine (HF.out _ HB0.out).mono ?_
 rintro e w1 ⟨rfl,hb1⟩
 have HB1:=hideS (HB0.out.trans (hb1.mono (by simp)))
 clear hb1
 have HX:=hideS (lG (P:=0) (Q:=0) (t:=112) HB1.out)
 go_wp2_with fail
 exact bodyPost_ret (v:=.tuple #[.int .u64 0,.int .i64 A]) (by simp [results,Tryz.results42,go_sem]) rfl ⟨rfl,HX.out.2.2⟩
end Go.Proofs.YtcmbfflemoccmaaGreat
namespace Go.Proofs.YtcmbfflemoccmaaGreat
open Go.RowKit

theorem sT (n:Int) (w:World) :
  Calls Tryz.prog 186 #[.int .i64 n] w fun e w'=>e=.returned (.bool (decide (0≤n∧n≤109572)))∧w'=w:=by
 by_cases h1:0≤n<;>by_cases h2:n≤109572
 all_goals
  first | rw [decide_eq_true (⟨h1,h2⟩:0≤n∧n≤109572)] | rw [decide_eq_false (fun h:0≤n∧n≤109572=>by omega)]
  go_enter Tryz.func186,Tryz.ntmps186
  go_wp2
  go_ret
  exact⟨rfl,rfl⟩
theorem EU (n:Int) (h:0≤n∧n≤109572) (w:World) :
  Calls Tryz.prog 186 #[.int .i64 n] w fun e w'=>e=.returned (.bool true)∧w'=w:=by
 have e:=sT n w
 rw [decide_eq_true h] at e;exact e
theorem IU (n:Int) (h:¬ (0≤n∧n≤109572)) (w:World) :
  Calls Tryz.prog 186 #[.int .i64 n] w fun e w'=>e=.returned (.bool false)∧w'=w:=by
 have e:=sT n w
 rw [decide_eq_false h] at e;exact e

set_option maxHeartbeats 400000 in
theorem Bg (n y:Int) (w:World) (h1:1900≤y) (h2:y≤2199) (hy:nyI y≤n) (hy':n<nyI (y+1)) :
  Calls Tryz.prog 187 #[.int .i64 n] w fun e w'=>e=.returned (.int .i64 y)∧w'=w:=by
 have n0:0≤n:=by have:=ni h1;omega
 have n1:n≤120000:=by have:=lv (y:=y+1) (by omega);omega
 have hs:1900+n / 366≤y:=by have:=lv (y:=y+1) (by omega);omega
 have HN:=hideS (fun (z:Int) (wx:World) (a:1900≤z) (b:z≤2200)=>jk z wx a b)
 have HY:=hideS hy
 have HY':=hideS hy'
 clear hy hy'
 go_enter Tryz.func187,Tryz.ntmps187
 go_wp2_with fail
 go_loop [3] (fun i=>∃ (j:Int),1900≤j∧j≤y∧i=.int .i64 j) (fun i=>(y - intOf i).toNat)
 case atStart=>exact⟨1900+n / 366,by omega,hs,rfl⟩
 case round=>
  obtain⟨j,hj1,hj2,rfl⟩:=hrel
  have H:=hideS (fun wx=>HN.out (j+1) wx (by omega) (by omega))
  by_cases hlt:j<y
  ·have hle:nyI (j+1)≤n:=by
    have:=ch (y:=j+1) (z:=y) (by omega) (by omega)
    have:=HY.out
    omega
   generalize nyI (j+1)=N at *
   go_wp2_with (go_at_call 189;refine (H.out _).mono ?_;rintro e w' ⟨rfl,rfl⟩)
   go_round
   case rel=>exact⟨j+1,by omega,by omega,rfl⟩
   case measure=>simp [intOf];omega
  ·obtain rfl:j=y:=by omega
   have hle:¬ nyI (j+1)≤n:=by have:=HY'.out;omega
   clear HY'
   generalize nyI (j+1)=N at *
   go_wp2_with (go_at_call 189;refine (H.out _).mono ?_;rintro e w' ⟨rfl,rfl⟩)
   go_ret
   exact⟨rfl,rfl⟩

set_option maxHeartbeats 800000 in
theorem nN (y m r:Int) (w:World) (h1:1≤m) (h2:m≤12) (hm:bI y m≤r) (hm':r<bI y (m+1)) :
  Calls Tryz.prog 188 #[.int .i64 y,.int .i64 r] w fun e w'=>e=.returned (.tuple #[.int .i64 m,.int .i64 (r - bI y m+1)])∧w'=w:=by
 have r0:0≤r:=by have:=AS (y:=y) h1 (by omega);omega
 have r1:r≤366:=by have:=AT (y:=y) (m:=m+1) (by omega) (by omega);omega
 have HLen:=hideS (fun (k:Int) (wx:World) (a:1≤k) (b:k≤12)=>kx y k wx a b)
 have HM:=hideS hm
 have HM':=hideS hm'
 clear hm hm'
 obtain⟨D,hD⟩:∃ D,r - bI y m+1=D:=⟨_,rfl⟩
 rw [hD]
 have HD:=hideS hD
 clear hD
 go_enter Tryz.func188,Tryz.ntmps188
 go_wp2_with fail
 go_loop [7,1,4] (fun i b _=>∃ (k:Int) (C:Int),0≤k∧k+1≤m∧0≤C∧C≤366∧i=.int .i64 k∧b=.int .i64 C∧Hid (C=r - bI y (k+1))) (fun i _ _=>(m - intOf i).toNat)
 case atStart=>exact⟨0,r,by omega,by omega,by omega,by omega,rfl,rfl,by show _=_;rw [show ((0:Int)+1)=1 by rfl,cF];omega⟩
 case round=>
  obtain⟨k,C,hk0,hk,hC0,hC1,rfl,rfl,HC⟩:=hrel
  have H:=hideS (fun wx=>HLen.out (k+1) wx (by omega) (by omega))
  have l1:=dN y (k+1)
  have HS:Hid (bI y (k+1+1)=bI y (k+1)+bp y (k+1)):=eB (m:=k+1) (by omega) (by omega)
  by_cases hlt:k+1<m
  ·have hle:¬ C<bp y (k+1):=by
    have:=fO (y:=y) (m:=k+1+1) (k:=m) (by omega) (by omega) (by omega)
    have:=HM.out
    have:=HS.out
    have:=HC.out
    omega
   have HC':Hid (C - bp y (k+1)=r - bI y (k+1+1)):=by
    show _=_
    rw [HS.out,HC.out];omega
   generalize bp y (k+1)=l at *
   go_wp2_with (go_at_call 211;refine (H.out _).mono ?_;rintro e w' ⟨rfl,rfl⟩)
   go_round
   case rel=>exact⟨k+1,C - l,by omega,by omega,by omega,by omega,rfl,rfl,HC'⟩
   case measure=>simp [intOf];omega
  ·have hle:C<bp y (k+1):=by
    have:=HM'.out
    rw [show m+1=k+1+1 by omega,HS.out] at this
    have:=HC.out
    omega
   have hm:m=k+1:=by omega
   have HE:Hid (C+1=D):=by
    show _=_
    rw [← HD.out,HC.out,hm]
   have HMk:=hideS hm
   clear hm HD HC HM HM'
   generalize bp y (k+1)=l at *
   go_wp2_with (go_at_call 211;refine (H.out _).mono ?_;rintro e w' ⟨rfl,rfl⟩)
   go_ret2
   obtain rfl:=HE.out
   obtain rfl:=HMk.out
   exact⟨rfl,rfl⟩

theorem lH {fn:Func} {t u v x:Tmp} (h:fn.results=#[.tmp t,.tmp u,.tmp v,.tmp x]) (tmps:Array Value) (P:Program) (w:World) :
  (results fn tmps).run P w=.ok (.tuple #[tmps.getD t undef,tmps.getD u undef,tmps.getD v undef,tmps.getD x undef]) w:=by
 simp [results,h]

set_option maxHeartbeats 400000 in
theorem gO (n y m d:Int) (w:World) (h:IsD n y m d) :
  Calls Tryz.prog 155 #[.int .i64 n] w fun e w'=>e=.returned (.tuple #[.int .i64 y,.int .i64 m,.int .i64 d,.int .i64 0])∧w'=w:=by
 obtain⟨n0,n1⟩:=h.range
 obtain⟨a,b⟩:=h.year
 obtain⟨a',b'⟩:=h.month
 have HY:=hideS (EU n ⟨n0,n1⟩)
 have hd:n - nyI y - bI y m+1=d:=by have:=h.2;unfold ay at this;omega
 obtain⟨h1,h2,h3,h4,_,_⟩:=h.1
 clear h
 have H1:=hideS (fun wx=>Bg n y wx h1 h2 a b)
 have H2:=hideS (fun wx=>jk y wx h1 (by omega))
 have h5:=fun wx=>nN y m (n - nyI y) wx h3 h4 a' b'
 rw [hd] at h5
 have H3:=hideS h5
 have c1:=AS (y:=y) h3 (by omega)
 have n2:=ni h1
 clear h5 hd b b' a'
 generalize nyI y=N at *
 go_enter Tryz.func155,Tryz.ntmps155
 go_wp2_with (first | (go_at_call 186;refine (HY.out _).mono ?_;rintro e w' ⟨rfl,rfl⟩) | (go_at_call 187;refine (H1.out _).mono ?_;rintro e w' ⟨rfl,rfl⟩) | (go_at_call 189;refine (H2.out _).mono ?_;rintro e w' ⟨rfl,rfl⟩) | (go_at_call 188;refine (H3.out _).mono ?_;rintro e w' ⟨rfl,rfl⟩))
 (try simp only [Exit.inBlock,Exit.then])
 refine bodyPost_ret (lH rfl _ _ _) rfl ?_
 exact⟨rfl,rfl⟩
theorem sU (n:Int) (w:World) (h:¬ (0≤n∧n≤109572)) :
  Calls Tryz.prog 155 #[.int .i64 n] w fun e w'=>e=.returned (.tuple #[.int .i64 0,.int .i64 0,.int .i64 0,.int .i64 51])∧w'=w:=by
 have HY:=hideS (IU n h)
 clear h
 go_enter Tryz.func155,Tryz.ntmps155
 go_wp2_with (go_at_call 186;refine (HY.out _).mono ?_;rintro e w' ⟨rfl,rfl⟩)
 (try simp only [Exit.inBlock,Exit.then])
 refine bodyPost_ret (lH rfl _ _ _) rfl ?_
 exact⟨rfl,rfl⟩
end Go.Proofs.YtcmbfflemoccmaaGreat
namespace Go.Proofs.YtcmbfflemoccmaaGreat
open Go.RowKit

end Go.Proofs.YtcmbfflemoccmaaGreat
namespace Go.Proofs.YtcmbfflemoccmaaGreat
open Go.RowKit

open Classical in
noncomputable def cl (r:Rul) (y:Int):Option Int:=if r.kind=4 then (if yrI r.day=y then some r.day else none) else gM r y
noncomputable def mkB (W:Int) (r:Rul) (y n:Int):Bool:=(cl r y).map (fun g=>mvI W g r.mv)==some n
noncomputable def mkT (W:Int) (r:Rul) (Y n:Int):Nat→Bool
 | 0=>false
 | t+1=>mkT W r Y n t||mkB W r (Y - 1+t) n
noncomputable def mkK (W:Int) (rs:List Rul) (Y n:Int):Nat→Bool
 | 0=>false
 | k+1=>mkK W rs Y n k||mkT W (rs.getD k dh) Y n 3

theorem Lk {W n:Int} (h0:0≤W) (h1:W≤126):mvI W n 0=n:=by
 obtain⟨u,d,hu⟩:=ji h0 h1 n
 rw [nj hu];unfold bL;rw [if_pos (Or.inl rfl)]
theorem Ll {W:Int} {r:Rul} {Y n:Int} (h0:0≤W) (h1:W≤126) (hf:bA r=true) (hy:yrI n=Y):mkT W r Y n 3=qr W r n Y:=by
 show (((false||mkB W r (Y - 1+((0:Nat):Int)) n)||mkB W r (Y - 1+((1:Nat):Int)) n)||mkB W r (Y - 1+((2:Nat):Int)) n)=_
 rw [show Y - 1+((0:Nat):Int)=Y - 1 by omega,show Y - 1+((1:Nat):Int)=Y by omega,show Y - 1+((2:Nat):Int)=Y+1 by omega,Bool.false_or]
 unfold qr
 by_cases k4:r.kind=4
 ·rw [if_pos k4]
  have hmv:r.mv=0:=by
   rcases fit_cases hf with⟨_,_,_,a⟩| ⟨_,⟨a,_⟩| ⟨a,_⟩| ⟨a,_⟩⟩
   ·exact a
   ·omega
   ·omega
   ·omega
  have key:∀ y,mkB W r y n=(decide (yrI r.day=y)&&(r.day==n)):=fun y=>by
   unfold mkB cl
   rw [if_pos k4]
   by_cases e:yrI r.day=y
   ·rw [if_pos e,Option.map_some,hmv,Lk h0 h1,decide_eq_true e,Bool.true_and];rfl
   ·rw [if_neg e,decide_eq_false e,Bool.false_and];rfl
  rw [key,key,key]
  by_cases e:r.day=n
  ·rw [e,hy,decide_eq_true (rfl:Y=Y)]
   simp
  ·rw [beq_eq_false_iff_ne.2 e]
   simp
 ·rw [if_neg k4]
  have key:∀ y,mkB W r y n=(fR W r y==some n):=fun y=>by
   unfold mkB cl fR
   rw [if_neg k4]
  rw [key,key,key]
theorem Lm {W:Int} {rs:List Rul} {Y n:Int} (h0:0≤W) (h1:W≤126) (hf:∀ r ∈ rs,bA r=true) (hy:yrI n=Y):mkK W rs Y n rs.length=mD W rs n Y:=by
 have key:∀ k,k≤rs.length→mkK W rs Y n k=(rs.take k).any fun r=>qr W r n Y:=fun k=>by
  induction k with
  | zero=>intro _;rfl
  | succ k ih=>
   intro hk
   have e:rs[k]? =some (rs.getD k dh):=by simp [List.getD,List.getElem?_eq_getElem (show k<rs.length by omega)]
   show (mkK W rs Y n k||mkT W (rs.getD k dh) Y n 3)=_
   rw [ih (by omega),Ll h0 h1 (hf _ (lC (by omega))) hy,List.take_add_one,e,List.any_append]
   simp
 rw [key _ (Nat.le_refl _),List.take_length]
 rfl
theorem LP {n Y:Int} (y0:1900≤Y) (y1:Y≤2199) (h:nyI Y≤n) (h':n<nyI (Y+1)):yrI n=Y:=by
 have a:=ch (y:=1900) (z:=Y) (by omega) y0
 have b:=ch (y:=Y+1) (z:=2200) (by omega) (by omega)
 rw [jh] at a
 rw [ob] at b
 obtain⟨y,m,d,hd⟩:=eI (n:=n) (by omega) (by omega)
 rw [qs hd]
 have hy:=hd.year
 have h0:=hd.1.1
 rcases Int.lt_trichotomy y Y with e | e | e
 ·have:=ch (y:=y+1) (z:=Y) (by omega) (by omega);omega
 ·exact e
 ·have:=ch (y:=Y+1) (z:=y) (by omega) (by omega);omega
theorem NW {n:Int} (hn:aj n):1900≤yrI n∧yrI n≤2199∧nyI (yrI n)≤n∧n<nyI (yrI n+1):=by
 obtain⟨y,m,d,hd⟩:=eI hn.1 hn.2
 rw [qs hd]
 exact⟨hd.1.1,hd.1.2.1,hd.year⟩
theorem EV (Y:Int):ay Y 1 1=nyI Y:=by unfold ay;rw [cF];omega
theorem IW {Y:Int} (h:1900≤Y):ay Y 12 31=nyI (Y+1) - 1:=by
 have e:=eB (y:=Y) (m:=12) (by omega) (by omega)
 rw [show (12+1:Int)=13 by decide,lw] at e
 have e2:bp Y 12=31:=by unfold bp;rw [if_neg (by decide),if_neg (by decide)]
 rw [dU h]
 unfold ay
 omega
theorem Bi {Y:Int} (y0:1900≤Y) (y1:Y≤2199):okD Y 1 1:=⟨y0,y1,by decide,by decide,by decide,by have:=dN Y 1;omega⟩
theorem IX {Y:Int} (y0:1900≤Y) (y1:Y≤2199):okD Y 12 31:=⟨y0,y1,by decide,by decide,by decide,by unfold bp;rw [if_neg (by decide),if_neg (by decide)];decide⟩
theorem IY {W:Int} {r:Rul} {y n:Int} (h:cl r y=none):mkB W r y n=false:=by unfold mkB;rw [h];rfl
theorem yO {W:Int} {r:Rul} {y n g:Int} (h:cl r y=some g):mkB W r y n=decide (mvI W g r.mv=n):=by
 unfold mkB;rw [h,Option.map_some]
 by_cases e:mvI W g r.mv=n
 ·rw [e,decide_eq_true rfl];simp
 ·rw [decide_eq_false e];simpa using e
end Go.Proofs.YtcmbfflemoccmaaGreat
namespace Go.Proofs.YtcmbfflemoccmaaGreat
open Go.RowKit

theorem aE (n lo hi:Int) (w:World) :
  Calls Tryz.prog 214 #[.int .i64 n,.int .i64 lo,.int .i64 hi] w fun e w'=>e=.returned (.bool (decide (lo≤n∧n≤hi)))∧w'=w:=by
 by_cases h1:lo≤n<;>by_cases h2:n≤hi
 all_goals
  first | rw [decide_eq_true (⟨h1,h2⟩:lo≤n∧n≤hi)] | rw [decide_eq_false (fun h:lo≤n∧n≤hi=>by omega)]
  go_enter Tryz.func214,Tryz.ntmps214
  go_wp2
  go_ret
  exact⟨rfl,rfl⟩

theorem qy (n:Int) (w:World) :
  Calls Tryz.prog 191 #[.int .i64 n] w fun e w'=>e=.returned (.bool (decide (aj n)))∧w'=w:=by
 have HI:=hideS (fun wx=>aE n 0 109572 wx)
 rw [show decide (aj n)=decide (0≤n∧n≤109572) from decide_eq_decide.2 Iff.rfl]
 generalize decide (0≤n∧n≤109572)=R at *
 go_enter Tryz.func191,Tryz.ntmps191
 go_wp2_with (go_at_call 214;refine (HI.out _).mono ?_;rintro e w1 ⟨rfl,rfl⟩)
 go_ret
 exact⟨rfl,rfl⟩

theorem IZ (n:Int):bits .and .i64 n 1=n % 2:=by
 have h1:(BitVec.ofInt 64 1).toNat=2^1 - 1:=by decide
 have key:(BitVec.ofInt 64 n&&& BitVec.ofInt 64 1).toNat=(n % ((2^64:Nat):Int)).toNat % 2^1:=by
  rw [BitVec.toNat_and,BitVec.toNat_ofInt,h1,Nat.and_two_pow_sub_one_eq_mod]
 show IntKind.i64.wrap ((BitVec.ofInt 64 n&&& BitVec.ofInt 64 1).toNat:Nat)=n % 2
 rw [key,IntKind.wrap_i64]
 omega

set_option maxHeartbeats 400000 in
theorem ka (W n:Int) (w:World) (n0: -7≤n) (n1:n≤1000000) :
  Calls Tryz.prog 215 #[.int .i64 W,.int .i64 n] w fun e w'=>e=.returned (.bool (cz W n))∧w'=w:=by
 obtain⟨k,hk⟩:∃ k:Nat,n % 7=k:=⟨(n % 7).toNat,by omega⟩
 have hak:(n+7) % 7=(k:Int):=by omega
 have hk6:k≤6:=by omega
 have hand:=IZ (W / 2^k)
 unfold cz
 rw [hk]
 have HE:Hid ((W / ((2^(((k:Nat):Int)).toNat:Nat):Int) % 2==1)=(W / 2^k % 2==1)):=by
  show _=_
  rw [Int.toNat_natCast,Int.natCast_pow];rfl
 clear hk
 rw [HE.out]
 clear HE
 go_enter Tryz.func215,Tryz.ntmps215
 go_wp2_with fail
 go_ret
 exact⟨rfl,rfl⟩

theorem Ja {W n mv:Int} {u d:Nat} (hu:Ups W n u d) (h0:u=0):bL W n mv u d=n:=by
 unfold bL
 rw [if_pos (Or.inr (by have:=hu.uf;rw [h0] at this;simpa using this))]
theorem Nh {W n mv:Int} {u d:Nat} (hu:Ups W n u d) (hm:mv≠0) (hd:mv=2→u≤d):bL W n mv u d=n+u:=by
 by_cases h0:u=0
 ·rw [Ja hu h0,h0];omega
 ·unfold bL
  have ho:cz W n=true:=by have:=hu.uo 0 (by omega);simpa using this
  rw [if_neg (fun a=>by
   rcases a with a | a
   ·exact hm a
   ·rw [ho] at a;exact Bool.noConfusion a),if_neg (fun a=>by have:=hd a.1;omega)]
theorem Jb {W n mv:Int} {u d:Nat} (hu:Ups W n u d) (hm:mv=2) (hd:d<u):bL W n mv u d=n - d:=by
 unfold bL
 have ho:cz W n=true:=by have:=hu.uo 0 (by omega);simpa using this
 rw [if_neg (fun a=>by
   rcases a with a | a
   ·omega
   ·rw [ho] at a;exact Bool.noConfusion a),if_pos ⟨hm,by omega⟩]

set_option maxHeartbeats 1600000 in
theorem jL (W n mv:Int) (u d:Nat) (w:World) (n0: -1≤n) (n1:n≤500000) (hu:Ups W n u d) :
  Calls Tryz.prog 239 #[.int .i64 n,.int .i64 mv,.int .i64 W] w fun e w'=>e=.returned (.int .i64 (bL W n mv u d))∧w'=w:=by
 have HO:Hid (∀ x wx,-7≤x→x≤1000000→Calls Tryz.prog 215 #[.int .i64 W,.int .i64 x] wx fun e w'=>e=.returned (.bool (cz W x))∧w'=wx):=fun x wx a b=>ka W x wx a b
 have HU:=hideS hu
 have u6:=hu.ub
 have d6:=hu.db
 obtain⟨R,hR⟩:∃ R,bL W n mv u d=R:=⟨_,rfl⟩
 rw [hR]
 have HR:=hideS hR
 clear hR hu
 by_cases hz:mv=0
 ·have HE:Hid (n=R):=by
   show _=_
   rw [← HR.out];unfold bL;rw [if_pos (Or.inl hz)]
  subst hz
  go_enter Tryz.func239,Tryz.ntmps239
  go_wp2_with fail
  go_ret
  obtain rfl:=HE.out
  exact⟨rfl,rfl⟩
 ·have hz':(mv==0)=false:=beq_eq_false_iff_ne.2 hz
  have HZ:=hideS hz
  clear hz
  go_enter Tryz.func239,Tryz.ntmps239
  go_wp2_with fail
  go_loop [11] (fun i=>∃ (k:Nat),k≤u∧i=.int .i64 k∧Hid (mv=2→k≤d)) (fun i=>u+1 - (intOf i).toNat)
  case atStart=>exact⟨0,by omega,rfl,fun _=>by omega⟩
  case round=>
   obtain⟨k,hk,rfl,HK⟩:=hrel
   have hk7:(k:Int)<7:=by omega
   have H1:=hideS (fun wx=>HO.out (n+k) wx (by omega) (by omega))
   by_cases hlt:k<u
   ·have e1:cz W (n+k)=true:=HU.out.uo k hlt
    rw [e1] at H1
    clear e1
    by_cases h2:mv=2
    ·have H2:=hideS (fun wx=>HO.out (n - k) wx (by omega) (by omega))
     have hkd:=HK.out h2
     by_cases hld:k<d
     ·have e2:cz W (n - k)=true:=HU.out.dn k hld
      rw [e2] at H2
      clear e2
      subst h2
      go_wp2_with (first | (go_at_call_of 215 (Value.int IntKind.i64 (n+k));refine (H1.out _).mono ?_;rintro e w' ⟨rfl,rfl⟩) | (go_at_call_of 215 (Value.int IntKind.i64 (n - k));refine (H2.out _).mono ?_;rintro e w' ⟨rfl,rfl⟩))
      go_round
      case rel=>exact⟨k+1,by omega,by go_num,fun _=>by omega⟩
      case measure=>simp [intOf];omega
     ·obtain rfl:k=d:=by omega
      have e2:cz W (n - k)=false:=HU.out.df
      rw [e2] at H2
      clear e2
      have HE:Hid (n - k=R):=by
       show _=_
       rw [← HR.out,Jb HU.out h2 hlt]
      subst h2
      go_wp2_with (first | (go_at_call_of 215 (Value.int IntKind.i64 (n+k));refine (H1.out _).mono ?_;rintro e w' ⟨rfl,rfl⟩) | (go_at_call_of 215 (Value.int IntKind.i64 (n - k));refine (H2.out _).mono ?_;rintro e w' ⟨rfl,rfl⟩))
      go_ret
      obtain rfl:=HE.out
      exact⟨rfl,rfl⟩
    ·have h2':(mv==2)=false:=beq_eq_false_iff_ne.2 h2
     have HK':Hid (mv=2→k+1≤d):=fun a=>absurd a h2
     clear h2
     go_wp2_with (go_at_call 215;refine (H1.out _).mono ?_;rintro e w' ⟨rfl,rfl⟩)
     go_round
     case rel=>exact⟨k+1,by omega,by go_num,HK'⟩
     case measure=>simp [intOf];omega
   ·obtain rfl:k=u:=by omega
    have e1:cz W (n+k)=false:=HU.out.uf
    rw [e1] at H1
    clear e1
    have HE:Hid (n+k=R):=by
     show _=_
     rw [← HR.out,Nh HU.out HZ.out HK.out]
    go_wp2_with (go_at_call 215;refine (H1.out _).mono ?_;rintro e w' ⟨rfl,rfl⟩)
    go_ret
    obtain rfl:=HE.out
    exact⟨rfl,rfl⟩
end Go.Proofs.YtcmbfflemoccmaaGreat
namespace Go.Proofs.YtcmbfflemoccmaaGreat
open Go.RowKit

theorem NX (mon day nth wd off fr to mv:Int):bA ⟨1,mon,day,nth,wd,off,fr,to,mv⟩=decide ((1900≤fr∧fr≤2199∧fr≤to∧to≤2199∧0≤mv∧mv≤2)∧nth=0∧wd=0∧off=0∧1≤mon∧mon≤12∧1≤day∧day≤gL mon):=by
 by_cases h:lD fr to mv
 ·rw [NT h];exact decide_eq_decide.2 ⟨fun a=>⟨h,a⟩,fun a=>a.2⟩
 ·rw [oe (by decide) h,decide_eq_false (fun a=>h a.1)]
theorem NY (mon day nth wd off fr to mv:Int):bA ⟨2,mon,day,nth,wd,off,fr,to,mv⟩=decide ((1900≤fr∧fr≤2199∧fr≤to∧to≤2199∧0≤mv∧mv≤2)∧day=0∧off=0∧1≤mon∧mon≤12∧0≤wd∧wd≤6∧1≤nth∧nth≤5):=by
 by_cases h:lD fr to mv
 ·rw [NU h];exact decide_eq_decide.2 ⟨fun a=>⟨h,a⟩,fun a=>a.2⟩
 ·rw [oe (by decide) h,decide_eq_false (fun a=>h a.1)]
theorem NZ (mon day nth wd off fr to mv:Int):bA ⟨3,mon,day,nth,wd,off,fr,to,mv⟩=decide ((1900≤fr∧fr≤2199∧fr≤to∧to≤2199∧0≤mv∧mv≤2)∧mon=0∧day=0∧nth=0∧wd=0∧-100≤off∧off≤100):=by
 by_cases h:lD fr to mv
 ·rw [NV h];exact decide_eq_decide.2 ⟨fun a=>⟨h,a⟩,fun a=>a.2⟩
 ·rw [oe (by decide) h,decide_eq_false (fun a=>h a.1)]
theorem iF (w:World) (o1 o2:Obj):Below w.heap.size w ((w.alloc o1).alloc o2):=((Below.refl w.heap.size w).alloc (Nat.le_refl _) _).alloc (by simp) _

theorem Bj (n:Int) (w:World) :
  Calls Tryz.prog 191 #[.int .i64 n] w fun e w'=>e=.returned (.bool (decide (0≤n∧n≤109572)))∧w'=w:=by
 have:=qy n w
 rw [show decide (aj n)=decide (0≤n∧n≤109572) from decide_eq_decide.2 Iff.rfl] at this
 exact this

set_option maxHeartbeats 1600000 in
theorem mE (kind mon day nth wd off fr to mv:Int) (w:World) :
  Calls Tryz.prog 261 #[.agg #[.int .i64 kind,.int .i64 mon,.int .i64 day,.int .i64 nth,.int .i64 wd,.int .i64 off,.int .i64 fr,.int .i64 to,.int .i64 mv]] w fun e w'=>e=.returned (.bool (decide (1900≤fr∧fr≤2199∧fr≤to∧to≤2199∧0≤mv∧mv≤2)))∧Below w.heap.size w w':=by
 obtain⟨R,hR⟩:∃ R,decide (1900≤fr∧fr≤2199∧fr≤to∧to≤2199∧0≤mv∧mv≤2)=R:=⟨_,rfl⟩
 rw [hR]
 have HR:=hideS hR
 clear hR
 go_enter Tryz.func261,Tryz.ntmps261
 go_wp2_with (go_at_call 214;refine (aE _ _ _ _).mono ?_;rintro e w1 ⟨rfl,rfl⟩)
 all_goals
  go_ret
  refine⟨qu (Eq.trans ?_ HR.out),(Below.refl w.heap.size w).alloc (Nat.le_refl _) _⟩
  first | exact (decide_eq_false (by omega)).symm | exact decide_eq_decide.2 (by omega) | (rw [Bool.eq_iff_iff];simp only [Bool.and_eq_true,decide_eq_true_eq];omega)

theorem Jc {m:Int} (h1:1≤m) (h2:m≤12):bp 2000 m=gL m:=by
 rcases month_cases h1 h2 with rfl | rfl | rfl | rfl | rfl | rfl | rfl | rfl | rfl | rfl | rfl | rfl<;>decide

set_option maxHeartbeats 3200000 in
theorem Jd (mon day nth wd off fr to mv:Int) (w:World) :
  Calls Tryz.prog 269 #[.agg #[.int .i64 4,.int .i64 mon,.int .i64 day,.int .i64 nth,.int .i64 wd,.int .i64 off,.int .i64 fr,.int .i64 to,.int .i64 mv]] w fun e w'=>e=.returned (.bool (bA ⟨4,mon,day,nth,wd,off,fr,to,mv⟩))∧Below w.heap.size w w':=by
 rw [NS]
 obtain⟨R,hR⟩:∃ R,decide (mon=0∧nth=0∧wd=0∧off=0∧fr=0∧to=0∧mv=0∧0≤day∧day≤109572)=R:=⟨_,rfl⟩
 rw [hR]
 have HR:=hideS hR
 clear hR
 go_enter Tryz.func269,Tryz.ntmps269
 go_wp2_with (go_at_call 191;refine (Bj _ _).mono ?_;rintro e w1 ⟨rfl,rfl⟩)
 all_goals
  go_ret
  refine⟨qu (Eq.trans ?_ HR.out),(Below.refl w.heap.size w).alloc (Nat.le_refl _) _⟩
  first | exact (decide_eq_false (by omega)).symm | exact decide_eq_decide.2 (by omega) | (rw [Bool.eq_iff_iff];simp only [Bool.and_eq_true,decide_eq_true_eq];omega)

set_option maxHeartbeats 3200000 in
theorem Je (mon day nth wd off fr to mv:Int) (w:World) :
  Calls Tryz.prog 265 #[.agg #[.int .i64 3,.int .i64 mon,.int .i64 day,.int .i64 nth,.int .i64 wd,.int .i64 off,.int .i64 fr,.int .i64 to,.int .i64 mv]] w fun e w'=>e=.returned (.bool (bA ⟨3,mon,day,nth,wd,off,fr,to,mv⟩))∧Below w.heap.size w w':=by
 rw [NZ]
 obtain⟨R,hR⟩:∃ R,decide ((1900≤fr∧fr≤2199∧fr≤to∧to≤2199∧0≤mv∧mv≤2)∧mon=0∧day=0∧nth=0∧wd=0∧-100≤off∧off≤100)=R:=⟨_,rfl⟩
 rw [hR]
 have HR:=hideS hR
 clear hR
 have HB2:=hideS (iF w)
 have HA:=hideS (fun kind mon day nth wd off fr to mv wx=>mE kind mon day nth wd off fr to mv wx)
 go_enter Tryz.func265,Tryz.ntmps265
 go_wp2_with (first | (go_at_call 214;refine (aE _ _ _ _).mono ?_;rintro e w1 ⟨rfl,rfl⟩) | (go_at_call 261;refine (HA.out _ _ _ _ _ _ _ _ _ _).mono ?_;rintro e w1 ⟨rfl,hb1⟩))
 all_goals
  go_ret
  first
  | refine⟨qu (Eq.trans ?_ HR.out),HB2.out _ _⟩
  | refine⟨qu (Eq.trans ?_ HR.out),(HB2.out _ _).trans (hb1.mono (by simp<;>omega))⟩
  first | exact (decide_eq_false (by omega)).symm | exact decide_eq_decide.2 (by omega) | (rw [Bool.eq_iff_iff];simp only [Bool.and_eq_true,decide_eq_true_eq];omega)

set_option maxHeartbeats 3200000 in
theorem Jf (mon day nth wd off fr to mv:Int) (w:World) :
  Calls Tryz.prog 263 #[.agg #[.int .i64 2,.int .i64 mon,.int .i64 day,.int .i64 nth,.int .i64 wd,.int .i64 off,.int .i64 fr,.int .i64 to,.int .i64 mv]] w fun e w'=>e=.returned (.bool (bA ⟨2,mon,day,nth,wd,off,fr,to,mv⟩))∧Below w.heap.size w w':=by
 rw [NY]
 obtain⟨R,hR⟩:∃ R,decide ((1900≤fr∧fr≤2199∧fr≤to∧to≤2199∧0≤mv∧mv≤2)∧day=0∧off=0∧1≤mon∧mon≤12∧0≤wd∧wd≤6∧1≤nth∧nth≤5)=R:=⟨_,rfl⟩
 rw [hR]
 have HR:=hideS hR
 clear hR
 have HB2:=hideS (iF w)
 have HA:=hideS (fun kind mon day nth wd off fr to mv wx=>mE kind mon day nth wd off fr to mv wx)
 go_enter Tryz.func263,Tryz.ntmps263
 go_wp2_with (first | (go_at_call 214;refine (aE _ _ _ _).mono ?_;rintro e w1 ⟨rfl,rfl⟩) | (go_at_call 261;refine (HA.out _ _ _ _ _ _ _ _ _ _).mono ?_;rintro e w1 ⟨rfl,hb1⟩))
 all_goals
  go_ret
  first
  | refine⟨qu (Eq.trans ?_ HR.out),HB2.out _ _⟩
  | refine⟨qu (Eq.trans ?_ HR.out),(HB2.out _ _).trans (hb1.mono (by simp<;>omega))⟩
  first | exact (decide_eq_false (by omega)).symm | exact decide_eq_decide.2 (by omega) | (rw [Bool.eq_iff_iff];simp only [Bool.and_eq_true,decide_eq_true_eq];omega)

set_option maxHeartbeats 3200000 in
theorem Jg (mon day nth wd off fr to mv:Int) (w:World) :
  Calls Tryz.prog 260 #[.agg #[.int .i64 1,.int .i64 mon,.int .i64 day,.int .i64 nth,.int .i64 wd,.int .i64 off,.int .i64 fr,.int .i64 to,.int .i64 mv]] w fun e w'=>e=.returned (.bool (bA ⟨1,mon,day,nth,wd,off,fr,to,mv⟩))∧Below w.heap.size w w':=by
 rw [NX]
 have HB2:=hideS (iF w)
 have HA:=hideS (fun kind mon day nth wd off fr to mv wx=>mE kind mon day nth wd off fr to mv wx)
 by_cases hm:1≤mon∧mon≤12
 ·have HL:=hideS (fun wx=>fQ 2000 mon wx ⟨by decide,by decide,hm.1,hm.2⟩)
  rw [Jc hm.1 hm.2] at HL
  generalize gL mon=L at *
  obtain⟨R,hR⟩:∃ R,decide ((1900≤fr∧fr≤2199∧fr≤to∧to≤2199∧0≤mv∧mv≤2)∧nth=0∧wd=0∧off=0∧1≤mon∧mon≤12∧1≤day∧day≤L)=R:=⟨_,rfl⟩
  rw [hR]
  have HR:=hideS hR
  clear hR
  go_enter Tryz.func260,Tryz.ntmps260
  go_wp2_with (first | (go_at_call 210;refine (HL.out _).mono ?_;rintro e w1 ⟨rfl,rfl⟩) | (go_at_call 214;refine (aE _ _ _ _).mono ?_;rintro e w1 ⟨rfl,rfl⟩) | (go_at_call 261;refine (HA.out _ _ _ _ _ _ _ _ _ _).mono ?_;rintro e w1 ⟨rfl,hb1⟩))
  all_goals
   go_ret
   first
   | refine⟨qu (Eq.trans ?_ HR.out),HB2.out _ _⟩
   | refine⟨qu (Eq.trans ?_ HR.out),(HB2.out _ _).trans (hb1.mono (by simp<;>omega))⟩
   first | exact (decide_eq_false (by omega)).symm | exact decide_eq_decide.2 (by omega) | (rw [Bool.eq_iff_iff];simp only [Bool.and_eq_true,decide_eq_true_eq];omega)
 ·have HL:=hideS (fun wx=>jj 2000 mon wx (fun a=>hm ⟨a.2.2.1,a.2.2.2⟩))
  rw [decide_eq_false (fun a=>hm ⟨a.2.2.2.2.1,a.2.2.2.2.2.1⟩)]
  clear hm
  go_enter Tryz.func260,Tryz.ntmps260
  go_wp2_with (go_at_call 210;refine (HL.out _).mono ?_;rintro e w1 ⟨rfl,rfl⟩)
  all_goals
   go_ret
   exact⟨rfl,HB2.out _ _⟩

set_option maxHeartbeats 400000 in
theorem Jh (w:World) :
  Calls Tryz.prog 271 #[.agg #[]] w fun e w'=>e=.returned (.bool false)∧Below w.heap.size w w':=by
 go_enter Tryz.func271,Tryz.ntmps271
 go_wp2_with fail
 go_ret
 exact⟨rfl,(Below.refl w.heap.size w).alloc (Nat.le_refl _) _⟩

def tyK (k:Int):Nat:=if k=1 then 252 else if k=2 then 253 else if k=3 then 254 else 255
set_option maxHeartbeats 1600000 in
theorem bj (kind mon day nth wd off fr to mv:Int) (w:World) (hk:kind=1∨kind=2∨kind=3∨kind=4) :
  Calls Tryz.prog 213 #[.agg #[.int .i64 kind,.int .i64 mon,.int .i64 day,.int .i64 nth,.int .i64 wd,.int .i64 off,.int .i64 fr,.int .i64 to,.int .i64 mv]] w fun e w'=>e=.returned (.iface (tyK kind) (.agg #[.int .i64 kind,.int .i64 mon,.int .i64 day,.int .i64 nth,.int .i64 wd,.int .i64 off,.int .i64 fr,.int .i64 to,.int .i64 mv]))∧Below w.heap.size w w':=by
 rcases hk with rfl | rfl | rfl | rfl
 all_goals
  go_enter Tryz.func213,Tryz.ntmps213
  go_wp2_with fail
  go_ret
  exact⟨rfl,(Below.refl w.heap.size w).alloc (Nat.le_refl _) _⟩
set_option maxHeartbeats 1600000 in
theorem qz (kind mon day nth wd off fr to mv:Int) (w:World) (hk:¬ (kind=1∨kind=2∨kind=3∨kind=4)) :
  Calls Tryz.prog 213 #[.agg #[.int .i64 kind,.int .i64 mon,.int .i64 day,.int .i64 nth,.int .i64 wd,.int .i64 off,.int .i64 fr,.int .i64 to,.int .i64 mv]] w fun e w'=>e=.returned (.iface 257 (.agg #[]))∧Below w.heap.size w w':=by
 have k1:(kind==1)=false:=beq_eq_false_iff_ne.2 (fun a=>hk (by omega))
 have k2:(kind==2)=false:=beq_eq_false_iff_ne.2 (fun a=>hk (by omega))
 have k3:(kind==3)=false:=beq_eq_false_iff_ne.2 (fun a=>hk (by omega))
 have k4:(kind==4)=false:=beq_eq_false_iff_ne.2 (fun a=>hk (by omega))
 clear hk
 go_enter Tryz.func213,Tryz.ntmps213
 go_wp2_with fail
 go_ret
 exact⟨rfl,(Below.refl w.heap.size w).alloc (Nat.le_refl _) _⟩
end Go.Proofs.YtcmbfflemoccmaaGreat
namespace Go.Proofs.YtcmbfflemoccmaaGreat
open Go.RowKit

theorem Ln {mon day nth wd off fr to mv y:Int} (ho:okD y mon day) (hr:fr≤y∧y≤to):cl ⟨1,mon,day,nth,wd,off,fr,to,mv⟩ y=some (ay y mon day):=by
 unfold cl gM
 dsimp only
 rw [if_neg (by decide),if_neg (by omega),if_pos rfl,if_pos ho]
theorem Lo {mon day nth wd off fr to mv y:Int} (ho:¬ okD y mon day):cl ⟨1,mon,day,nth,wd,off,fr,to,mv⟩ y=none:=by
 unfold cl gM
 dsimp only
 rw [if_neg (by decide),if_pos rfl,if_neg ho]
 split<;>rfl
theorem vc {kind mon day nth wd off fr to mv y:Int} (hk:kind≠4) (hr:¬ (fr≤y∧y≤to)):cl ⟨kind,mon,day,nth,wd,off,fr,to,mv⟩ y=none:=by
 unfold cl gM
 dsimp only
 rw [if_neg hk,if_pos (by omega)]
theorem Lp {mon day nth wd off fr to mv y:Int} (hr:fr≤y∧y≤to):cl ⟨2,mon,day,nth,wd,off,fr,to,mv⟩ y=some (mB y mon wd nth):=by
 unfold cl gM
 dsimp only
 rw [if_neg (by decide),if_neg (by omega),if_neg (by decide),if_pos rfl]
theorem Lq {mon day nth wd off fr to mv y:Int} (hr:fr≤y∧y≤to):cl ⟨3,mon,day,nth,wd,off,fr,to,mv⟩ y=some (dg y+off):=by
 unfold cl gM
 dsimp only
 rw [if_neg (by decide),if_neg (by omega),if_neg (by decide),if_neg (by decide),if_pos rfl]
theorem Lr {mon day nth wd off fr to mv y m d:Int} (h:IsD day y m d):cl ⟨4,mon,day,nth,wd,off,fr,to,mv⟩ y=some day:=by
 unfold cl
 dsimp only
 rw [if_pos rfl,if_pos (qs h)]
theorem Ls {mon day nth wd off fr to mv y y0 m d:Int} (h:IsD day y0 m d) (hy:y0≠y):cl ⟨4,mon,day,nth,wd,off,fr,to,mv⟩ y=none:=by
 unfold cl
 dsimp only
 rw [if_pos rfl,if_neg (by rw [qs h];exact hy)]

set_option maxHeartbeats 1600000 in
theorem Lt (mon day nth wd off fr to mv y:Int) (w:World) :
  Calls Tryz.prog 259 #[.agg #[.int .i64 1,.int .i64 mon,.int .i64 day,.int .i64 nth,.int .i64 wd,.int .i64 off,.int .i64 fr,.int .i64 to,.int .i64 mv],.int .i64 y] w fun e w'=>∃ N,e=.returned (.tuple #[.int .i64 N,.bool (cl ⟨1,mon,day,nth,wd,off,fr,to,mv⟩ y).isSome])∧(∀ g,cl ⟨1,mon,day,nth,wd,off,fr,to,mv⟩ y=some g→N=g)∧Below w.heap.size w w':=by
 have HB0:=hideS (fun o=>(Below.refl w.heap.size w).alloc (Nat.le_refl _) o)
 by_cases ho:okD y mon day
 ·have HO:=hideS (fun wx=>mC y mon day wx ho)
  have HI:=hideS (fun wx=>aE y fr to wx)
  by_cases hr:fr≤y∧y≤to
  ·rw [Ln ho hr]
   rw [decide_eq_true hr] at HI
   generalize ay y mon day=D at *
   clear ho hr
   go_enter Tryz.func259,Tryz.ntmps259
   go_wp2_with (first | (go_at_call 184;refine (HO.out _).mono ?_;rintro e w1 ⟨rfl,rfl⟩) | (go_at_call 214;refine (HI.out _).mono ?_;rintro e w1 ⟨rfl,rfl⟩))
   go_ret2
   exact⟨_,rfl,fun g hg=>Option.some.inj hg,HB0.out _⟩
  ·rw [vc (by decide) hr]
   rw [decide_eq_false hr] at HI
   generalize ay y mon day=D at *
   clear ho hr
   go_enter Tryz.func259,Tryz.ntmps259
   go_wp2_with (first | (go_at_call 184;refine (HO.out _).mono ?_;rintro e w1 ⟨rfl,rfl⟩) | (go_at_call 214;refine (HI.out _).mono ?_;rintro e w1 ⟨rfl,rfl⟩))
   go_ret2
   exact⟨_,rfl,fun g hg=>(by cases hg),HB0.out _⟩
 ·have HO:=hideS (fun wx=>Lg y mon day wx ho)
  rw [Lo ho]
  clear ho
  go_enter Tryz.func259,Tryz.ntmps259
  go_wp2_with (go_at_call 184;refine (HO.out _).mono ?_;rintro e w1 ⟨rfl,rfl⟩)
  go_ret2
  exact⟨_,rfl,fun g hg=>(by cases hg),HB0.out _⟩

theorem Ji {f L wd k:Int} (_d0:0≤wd) (_d1:wd≤6) (k1:1≤k) (k5:k≤5) (l0:28≤L) (_f0:0≤f) :
  (if k=5∧f+L≤f+(wd - f) % 7+7*(k - 1) then f+(wd - f) % 7+7*(k - 1) - 7 else f+(wd - f) % 7+7*(k - 1))=if f+L≤f+(wd+7 - f % 7) % 7+7*(k - 1) then f+(wd+7 - f % 7) % 7+7*(k - 1) - 7 else f+(wd+7 - f % 7) % 7+7*(k - 1):=by
 have e:(wd+7 - f % 7) % 7=(wd - f) % 7:=by omega
 rw [e]
 by_cases a:k=5
 ·by_cases b:f+L≤f+(wd - f) % 7+7*(k - 1)
  ·rw [if_pos ⟨a,b⟩,if_pos b]
  ·rw [if_neg (fun c=>b c.2),if_neg b]
 ·rw [if_neg (fun c=>a c.1),if_neg (by omega)]

set_option maxHeartbeats 1600000 in
theorem Lu (mon day nth wd off fr to mv y:Int) (w:World) (m0:1≤mon) (m1:mon≤12) (d0:0≤wd) (d1:wd≤6) (k1:1≤nth) (k5:nth≤5) (f0:1900≤fr) (f1:to≤2199) :
  Calls Tryz.prog 262 #[.agg #[.int .i64 2,.int .i64 mon,.int .i64 day,.int .i64 nth,.int .i64 wd,.int .i64 off,.int .i64 fr,.int .i64 to,.int .i64 mv],.int .i64 y] w fun e w'=>∃ N,e=.returned (.tuple #[.int .i64 N,.bool (cl ⟨2,mon,day,nth,wd,off,fr,to,mv⟩ y).isSome])∧(∀ g,cl ⟨2,mon,day,nth,wd,off,fr,to,mv⟩ y=some g→N=g)∧Below w.heap.size w w':=by
 have HB0:=hideS (fun o=>(Below.refl w.heap.size w).alloc (Nat.le_refl _) o)
 have HI:=hideS (fun wx=>aE y fr to wx)
 by_cases hr:fr≤y∧y≤to
 ·rw [Lp hr]
  rw [decide_eq_true hr] at HI
  have hym:ymB y mon:=⟨by omega,by omega,m0,m1⟩
  have HL:=hideS (fun wx=>fQ y mon wx hym)
  have HO:=hideS (fun wx=>mC y mon 1 wx (gK hym 1 (by omega) (by omega)))
  obtain⟨g0,g1⟩:=(iD (gK hym 1 (by omega) (by omega))).range
  have l0:=dN y mon
  have l1:=dO y mon
  have hR:mB y mon wd nth=if ay y mon 1+bp y mon≤ay y mon 1+(wd+7 - ay y mon 1 % 7) % 7+7*(nth - 1) then ay y mon 1+(wd+7 - ay y mon 1 % 7) % 7+7*(nth - 1) - 7 else ay y mon 1+(wd+7 - ay y mon 1 % 7) % 7+7*(nth - 1):=Ji d0 d1 k1 k5 l0 g0
  obtain⟨R,hRR⟩:∃ R,mB y mon wd nth=R:=⟨_,rfl⟩
  rw [hRR] at hR ⊢
  clear hRR hym hr
  generalize ay y mon 1=f at *
  generalize bp y mon=L at *
  obtain⟨a,ha⟩:∃ a,f % 7=a:=⟨_,rfl⟩
  rw [ha] at hR
  obtain⟨t,ht⟩:∃ t,(wd+7 - a) % 7=t:=⟨_,rfl⟩
  rw [ht] at hR
  have t0:0≤t:=by omega
  have t1:t≤6:=by omega
  by_cases hge:f+L≤f+t+7*(nth - 1)
  ·rw [if_pos hge] at hR
   have HR:=hideS hR
   clear hR
   go_enter Tryz.func262,Tryz.ntmps262
   go_wp2_with (first | (go_at_call 210;refine (HL.out _).mono ?_;rintro e w1 ⟨rfl,rfl⟩) | (go_at_call 184;refine (HO.out _).mono ?_;rintro e w1 ⟨rfl,rfl⟩) | (go_at_call 214;refine (HI.out _).mono ?_;rintro e w1 ⟨rfl,rfl⟩))
   go_ret2
   exact⟨_,rfl,fun g hg=>(by rw [← Option.some.inj hg,HR.out]),HB0.out _⟩
  ·rw [if_neg hge] at hR
   have HR:=hideS hR
   clear hR
   go_enter Tryz.func262,Tryz.ntmps262
   go_wp2_with (first | (go_at_call 210;refine (HL.out _).mono ?_;rintro e w1 ⟨rfl,rfl⟩) | (go_at_call 184;refine (HO.out _).mono ?_;rintro e w1 ⟨rfl,rfl⟩) | (go_at_call 214;refine (HI.out _).mono ?_;rintro e w1 ⟨rfl,rfl⟩))
   go_ret2
   exact⟨_,rfl,fun g hg=>(by rw [← Option.some.inj hg,HR.out]),HB0.out _⟩
 ·rw [vc (by decide) hr]
  rw [decide_eq_false hr] at HI
  clear hr
  by_cases hym:ymB y mon
  ·have HL:=hideS (fun wx=>fQ y mon wx hym)
   generalize bp y mon=L at *
   clear hym
   go_enter Tryz.func262,Tryz.ntmps262
   go_wp2_with (first | (go_at_call 210;refine (HL.out _).mono ?_;rintro e w1 ⟨rfl,rfl⟩) | (go_at_call 214;refine (HI.out _).mono ?_;rintro e w1 ⟨rfl,rfl⟩))
   go_ret2
   exact⟨_,rfl,fun g hg=>(by cases hg),HB0.out _⟩
  ·have HL:=hideS (fun wx=>jj y mon wx hym)
   clear hym
   go_enter Tryz.func262,Tryz.ntmps262
   go_wp2_with (go_at_call 210;refine (HL.out _).mono ?_;rintro e w1 ⟨rfl,rfl⟩)
   go_ret2
   exact⟨_,rfl,fun g hg=>(by cases hg),HB0.out _⟩

set_option maxHeartbeats 1600000 in
theorem Lv (mon day nth wd off fr to mv y:Int) (w:World) (d0:0≤day) (d1:day≤109572) :
  Calls Tryz.prog 268 #[.agg #[.int .i64 4,.int .i64 mon,.int .i64 day,.int .i64 nth,.int .i64 wd,.int .i64 off,.int .i64 fr,.int .i64 to,.int .i64 mv],.int .i64 y] w fun e w'=>∃ N,e=.returned (.tuple #[.int .i64 N,.bool (cl ⟨4,mon,day,nth,wd,off,fr,to,mv⟩ y).isSome])∧(∀ g,cl ⟨4,mon,day,nth,wd,off,fr,to,mv⟩ y=some g→N=g)∧Below w.heap.size w w':=by
 have HB0:=hideS (fun o=>(Below.refl w.heap.size w).alloc (Nat.le_refl _) o)
 obtain⟨y0,m0,e0,hd⟩:=eI d0 d1
 have HC:=hideS (fun wx=>gO day y0 m0 e0 wx hd)
 by_cases hy:y0=y
 ·subst hy
  rw [Lr hd]
  clear hd
  go_enter Tryz.func268,Tryz.ntmps268
  go_wp2_with (go_at_call 155;refine (HC.out _).mono ?_;rintro e w1 ⟨rfl,rfl⟩)
  go_ret2
  exact⟨_,rfl,fun g hg=>Option.some.inj hg,HB0.out _⟩
 ·rw [Ls hd hy]
  have hy':(y0==y)=false:=beq_eq_false_iff_ne.2 hy
  clear hd hy
  go_enter Tryz.func268,Tryz.ntmps268
  go_wp2_with (go_at_call 155;refine (HC.out _).mono ?_;rintro e w1 ⟨rfl,rfl⟩)
  go_ret2
  exact⟨_,rfl,fun g hg=>(by cases hg),HB0.out _⟩

set_option maxHeartbeats 1600000 in
theorem Lw (mon day nth wd off fr to mv y:Int) (w:World) (o0: -100≤off) (o1:off≤100) (f0:1900≤fr) (f1:to≤2199) :
  Calls Tryz.prog 264 #[.agg #[.int .i64 3,.int .i64 mon,.int .i64 day,.int .i64 nth,.int .i64 wd,.int .i64 off,.int .i64 fr,.int .i64 to,.int .i64 mv],.int .i64 y] w fun e w'=>∃ N,e=.returned (.tuple #[.int .i64 N,.bool (cl ⟨3,mon,day,nth,wd,off,fr,to,mv⟩ y).isSome])∧(∀ g,cl ⟨3,mon,day,nth,wd,off,fr,to,mv⟩ y=some g→N=g)∧Below w.heap.size w w':=by
 have HB0:=hideS (fun o=>(Below.refl w.heap.size w).alloc (Nat.le_refl _) o)
 have HI:=hideS (fun wx=>aE y fr to wx)
 obtain⟨wq,hwq⟩:∃ wq,w.alloc (.cells #[.int .i64 3,.int .i64 mon,.int .i64 day,.int .i64 nth,.int .i64 wd,.int .i64 off,.int .i64 fr,.int .i64 to,.int .i64 mv] 254)=wq:=⟨_,rfl⟩
 have c5:wq.cell? ⟨w.heap.size,5,none⟩=some (.int .i64 off):=by rw [← hwq];simp
 have c6:wq.cell? ⟨w.heap.size,6,none⟩=some (.int .i64 fr):=by rw [← hwq];simp
 have c7:wq.cell? ⟨w.heap.size,7,none⟩=some (.int .i64 to):=by rw [← hwq];simp
 have HBq:Hid (Below w.heap.size w wq):=by rw [← hwq];exact HB0.out _
 have HQ:=hideS hwq
 clear hwq HB0
 by_cases hyy:1900≤y∧y≤2199
 ·have HE:=hideS (fun wx=>EM y wx hyy.1 hyy.2)
  obtain⟨n0,n1⟩:0≤dg y∧dg y≤109572:=(iD (jX hyy.1 hyy.2).ok).range
  by_cases hr:fr≤y∧y≤to
  ·rw [Lq hr]
   rw [decide_eq_true hr] at HI
   generalize dg y=D at *
   have hw1:IntKind.i64.wrap (D+off)=D+off:=by rw [IntKind.wrap_i64];omega
   clear hr hyy
   go_enter Tryz.func264,Tryz.ntmps264
   go_wp2_with (go_at_call 266;refine (HE.out _).mono ?_;rintro e w1 ⟨rfl,rfl⟩)
   rw [HQ.out]
   go_quiet ((go_at_call 214;exact Calls.quiet_of_same (HI.out _)))
   go_wp2_with fail
   go_ret2
   exact⟨_,rfl,fun g hg=>Option.some.inj hg,bG HBq.out⟩
  ·rw [vc (by decide) hr]
   rw [decide_eq_false hr] at HI
   generalize dg y=D at *
   have hw1:IntKind.i64.wrap (D+off)=D+off:=by rw [IntKind.wrap_i64];omega
   clear hr hyy
   go_enter Tryz.func264,Tryz.ntmps264
   go_wp2_with (go_at_call 266;refine (HE.out _).mono ?_;rintro e w1 ⟨rfl,rfl⟩)
   rw [HQ.out]
   go_quiet ((go_at_call 214;exact Calls.quiet_of_same (HI.out _)))
   go_wp2_with fail
   go_ret2
   exact⟨_,rfl,fun g hg=>(by cases hg),bG HBq.out⟩
 ·have HE:=hideS (fun wx=>AU y wx hyy)
  rw [vc (by decide) (fun a=>hyy (by omega))]
  have hw1:IntKind.i64.wrap (0+off)=0+off:=by rw [IntKind.wrap_i64];omega
  clear hyy
  go_enter Tryz.func264,Tryz.ntmps264
  go_wp2_with (go_at_call 266;refine (HE.out _).mono ?_;rintro e w1 ⟨rfl,rfl⟩)
  rw [HQ.out]
  go_quiet (fail)
  go_wp2_with fail
  go_ret2
  exact⟨_,rfl,fun g hg=>(by cases hg),bG HBq.out⟩
end Go.Proofs.YtcmbfflemoccmaaGreat
namespace Go.Proofs.YtcmbfflemoccmaaGreat
open Go.RowKit

def CBoxP (w:World) (W:Int) (v:Value) (wr:World):Prop:=Below (w.heap.size+1) (w.alloc (.cells #[.int .i64 W,v] 44)) wr
theorem CBoxP.cells {w w1:World} {W:Int} {v:Value} (hb:CBoxP w W v w1) :
  w1.cell? ⟨w.heap.size,0,none⟩=some (.int .i64 W)∧w1.cell? ⟨w.heap.size,1,none⟩=some v:=by
 refine⟨?_,?_⟩
 ·rw [Below.cell hb (p:=⟨w.heap.size,0,none⟩) (by simp)];simp
 ·rw [Below.cell hb (p:=⟨w.heap.size,1,none⟩) (by simp)];simp
theorem CBoxP.step {w wr w':World} {W:Int} {v:Value} (h:CBoxP w W v wr) (hb:Below wr.heap.size wr w'):CBoxP w W v w':=
 Below.trans h (hb.mono (by have:=Below.size h;simp at this;omega))
theorem CBoxP.below {w wr:World} {W:Int} {v:Value} (h:CBoxP w W v wr):Below w.heap.size w wr:=
 ((Below.refl w.heap.size w).alloc (Nat.le_refl _) _).trans (Below.mono h (by omega))
theorem CBoxP.first {w w':World} {W:Int} {v:Value} (hb:Below (w.alloc (.cells #[.int .i64 W,v] 44)).heap.size (w.alloc (.cells #[.int .i64 W,v] 44)) w'):CBoxP w W v w':=
 hb.mono (by simp)
theorem iG {wr w2 w3:World} {o:Obj} (h2:Below (wr.alloc o).heap.size (wr.alloc o) w2) (h3:Below w2.heap.size w2 w3):Below wr.heap.size wr w3:=
 (((Below.refl wr.heap.size wr).alloc (Nat.le_refl _) o).trans (h2.mono (by simp))).trans (h3.mono (by have:=h2.size;simp at this;omega))

set_option maxHeartbeats 3200000 in
theorem qA (W:Int) (p:Option Addr) (b off c:Nat) (rs:List Rul) (K:Nat) (A B:Int) (w:World) (w0:0≤W∧W≤126) (hs:RSrc w p b off rs) (hl:rs.length≤64) (hK:K≤rs.length) (hf:∀ j<K,bA (rs.getD j dh)=true)
  (hE:(K=rs.length∧A=0∧B=0)∨(K<rs.length∧bA (rs.getD K dh)=false∧A=60∧B=K)) :
  Calls Tryz.prog 190 #[.agg #[.int .i64 W,.slice p rs.length c]] w fun e w'=>e=.returned (.tuple #[.int .i64 A,.int .i64 B])∧Below w.heap.size w w':=by
 obtain⟨w0,w1⟩:=w0
 have w1':¬ 127≤W:=by omega
 have HS:=hideS hs
 have HF:=hideS hf
 have HE:=hideS hE
 clear hs hf hE
 obtain⟨N,hN⟩:∃ N,rs.length=N:=⟨_,rfl⟩
 have HN:=hideS hN
 rw [hN] at hl hK ⊢
 rw [hN] at HE
 clear hN
 go_enter Tryz.func190,Tryz.ntmps190
 go_wp2_with fail
 have HB0:Hid (CBoxP w W (.slice p N c) (w.alloc (.cells #[.int .i64 W,.slice p N c] 44))):=Below.refl _ _
 go_loopw [21] (fun i wr=>∃ (k:Nat),k≤K∧i=.int .i64 k∧Hid (CBoxP w W (.slice p N c) wr)) (fun i _=>N - (intOf i).toNat)
 case atStart=>exact⟨0,by omega,rfl,HB0⟩
 case round=>
  obtain⟨k,hk,rfl,HB⟩:=hrel
  by_cases hlt:k<N
  ·have hx:k<rs.length:=by rw [HN.out];exact hlt
   obtain rfl:=HS.out.at_ (by omega)
   have hrc:=(HS.out.cell k hx).below HB.out.below (HS.out.lt (by omega))
   have hft:=HF.out k
   have hEE:k<K∨(bA (rs.getD k dh)=false∧A=60∧B=k):=by
    by_cases hkK:k<K
    ·exact Or.inl hkK
    ·obtain rfl:k=K:=by omega
     rcases HE.out with⟨a,_⟩| ⟨_,a⟩
     ·omega
     ·exact Or.inr a
   generalize rs.getD k dh=r at hrc hft hEE
   clear hx
   obtain⟨g0,g1,g2,g3,g4,g5,g6,g7,g8⟩:=hrc
   have key:∀ R,bA r=R→(k<K∧R=true)∨(R=false∧A=60∧B=k):=fun R hR=>by
    rw [← hR]
    by_cases a:k<K
    ·exact Or.inl ⟨a,hft a⟩
    ·rcases hEE with b | b
     ·exact absurd b a
     ·exact Or.inr b
   clear hft hEE
   have HKey:=hideS key
   clear key
   obtain⟨kind,mon,day,nth,wd,offs,fr,to,mv⟩:=r
   dsimp only at *
   by_cases hkd:kind=1∨kind=2∨kind=3∨kind=4
   ·rcases hkd with rfl | rfl | rfl | rfl
    ·have HH:=hideS (fun wx=>(bj 1 mon day nth wd offs fr to mv wx (by omega):Calls Tryz.prog 213 _ wx fun e w'=>e=.returned (.iface 252 _)∧Below wx.heap.size wx w'))
     have HM:=hideS (fun wx=>Jg mon day nth wd offs fr to mv wx)
     obtain⟨R,hR⟩:∃ R,bA ⟨1,mon,day,nth,wd,offs,fr,to,mv⟩=R:=⟨_,rfl⟩
     have hKK:=HKey.out R hR
     rw [hR] at HM
     clear hR HKey
     rcases hKK with⟨a,rfl⟩| ⟨rfl,a⟩
     ·go_wp2_with (first | (go_at_call 213;refine (HH.out _).mono ?_;rintro e w2 ⟨rfl,hb2⟩) | (go_at_call 260;refine (HM.out _).mono ?_;rintro e w3 ⟨rfl,hb3⟩))
      have HB2:=hideS (HB.out.step (iG hb2 hb3))
      clear hb2 hb3
      go_roundw
      case rel=>exact⟨k+1,by omega,by go_num,HB2⟩
      case measure=>simp [intOf];omega
     ·have HA:=hideS a
      clear a
      go_wp2_with (first | (go_at_call 213;refine (HH.out _).mono ?_;rintro e w2 ⟨rfl,hb2⟩) | (go_at_call 260;refine (HM.out _).mono ?_;rintro e w3 ⟨rfl,hb3⟩))
      go_ret2
      obtain⟨rfl,rfl⟩:=HA.out
      exact⟨rfl,(HB.out.step (iG hb2 hb3)).below⟩
    ·have HH:=hideS (fun wx=>(bj 2 mon day nth wd offs fr to mv wx (by omega):Calls Tryz.prog 213 _ wx fun e w'=>e=.returned (.iface 253 _)∧Below wx.heap.size wx w'))
     have HM:=hideS (fun wx=>Jf mon day nth wd offs fr to mv wx)
     obtain⟨R,hR⟩:∃ R,bA ⟨2,mon,day,nth,wd,offs,fr,to,mv⟩=R:=⟨_,rfl⟩
     have hKK:=HKey.out R hR
     rw [hR] at HM
     clear hR HKey
     rcases hKK with⟨a,rfl⟩| ⟨rfl,a⟩
     ·go_wp2_with (first | (go_at_call 213;refine (HH.out _).mono ?_;rintro e w2 ⟨rfl,hb2⟩) | (go_at_call 263;refine (HM.out _).mono ?_;rintro e w3 ⟨rfl,hb3⟩))
      have HB2:=hideS (HB.out.step (iG hb2 hb3))
      clear hb2 hb3
      go_roundw
      case rel=>exact⟨k+1,by omega,by go_num,HB2⟩
      case measure=>simp [intOf];omega
     ·have HA:=hideS a
      clear a
      go_wp2_with (first | (go_at_call 213;refine (HH.out _).mono ?_;rintro e w2 ⟨rfl,hb2⟩) | (go_at_call 263;refine (HM.out _).mono ?_;rintro e w3 ⟨rfl,hb3⟩))
      go_ret2
      obtain⟨rfl,rfl⟩:=HA.out
      exact⟨rfl,(HB.out.step (iG hb2 hb3)).below⟩
    ·have HH:=hideS (fun wx=>(bj 3 mon day nth wd offs fr to mv wx (by omega):Calls Tryz.prog 213 _ wx fun e w'=>e=.returned (.iface 254 _)∧Below wx.heap.size wx w'))
     have HM:=hideS (fun wx=>Je mon day nth wd offs fr to mv wx)
     obtain⟨R,hR⟩:∃ R,bA ⟨3,mon,day,nth,wd,offs,fr,to,mv⟩=R:=⟨_,rfl⟩
     have hKK:=HKey.out R hR
     rw [hR] at HM
     clear hR HKey
     rcases hKK with⟨a,rfl⟩| ⟨rfl,a⟩
     ·go_wp2_with (first | (go_at_call 213;refine (HH.out _).mono ?_;rintro e w2 ⟨rfl,hb2⟩) | (go_at_call 265;refine (HM.out _).mono ?_;rintro e w3 ⟨rfl,hb3⟩))
      have HB2:=hideS (HB.out.step (iG hb2 hb3))
      clear hb2 hb3
      go_roundw
      case rel=>exact⟨k+1,by omega,by go_num,HB2⟩
      case measure=>simp [intOf];omega
     ·have HA:=hideS a
      clear a
      go_wp2_with (first | (go_at_call 213;refine (HH.out _).mono ?_;rintro e w2 ⟨rfl,hb2⟩) | (go_at_call 265;refine (HM.out _).mono ?_;rintro e w3 ⟨rfl,hb3⟩))
      go_ret2
      obtain⟨rfl,rfl⟩:=HA.out
      exact⟨rfl,(HB.out.step (iG hb2 hb3)).below⟩
    ·have HH:=hideS (fun wx=>(bj 4 mon day nth wd offs fr to mv wx (by omega):Calls Tryz.prog 213 _ wx fun e w'=>e=.returned (.iface 255 _)∧Below wx.heap.size wx w'))
     have HM:=hideS (fun wx=>Jd mon day nth wd offs fr to mv wx)
     obtain⟨R,hR⟩:∃ R,bA ⟨4,mon,day,nth,wd,offs,fr,to,mv⟩=R:=⟨_,rfl⟩
     have hKK:=HKey.out R hR
     rw [hR] at HM
     clear hR HKey
     rcases hKK with⟨a,rfl⟩| ⟨rfl,a⟩
     ·go_wp2_with (first | (go_at_call 213;refine (HH.out _).mono ?_;rintro e w2 ⟨rfl,hb2⟩) | (go_at_call 269;refine (HM.out _).mono ?_;rintro e w3 ⟨rfl,hb3⟩))
      have HB2:=hideS (HB.out.step (iG hb2 hb3))
      clear hb2 hb3
      go_roundw
      case rel=>exact⟨k+1,by omega,by go_num,HB2⟩
      case measure=>simp [intOf];omega
     ·have HA:=hideS a
      clear a
      go_wp2_with (first | (go_at_call 213;refine (HH.out _).mono ?_;rintro e w2 ⟨rfl,hb2⟩) | (go_at_call 269;refine (HM.out _).mono ?_;rintro e w3 ⟨rfl,hb3⟩))
      go_ret2
      obtain⟨rfl,rfl⟩:=HA.out
      exact⟨rfl,(HB.out.step (iG hb2 hb3)).below⟩
   ·have HH:=hideS (fun wx=>qz kind mon day nth wd offs fr to mv wx hkd)
    have HM:=hideS (fun wx=>Jh wx)
    have HA:Hid (A=60∧B=k):=by
     rcases HKey.out _ (IQ (fun a=>hkd (by omega)) (fun a=>hkd (by omega)) (fun a=>hkd (by omega)) (fun a=>hkd (by omega))) with⟨_,a⟩| ⟨_,a⟩
     ·exact Bool.noConfusion a
     ·exact a
    clear HKey hkd
    go_wp2_with (first | (go_at_call 213;refine (HH.out _).mono ?_;rintro e w2 ⟨rfl,hb2⟩) | (go_at_call 271;refine (HM.out _).mono ?_;rintro e w3 ⟨rfl,hb3⟩))
    go_ret2
    obtain⟨rfl,rfl⟩:=HA.out
    exact⟨rfl,(HB.out.step (iG hb2 hb3)).below⟩
  ·have HA:Hid (A=0∧B=0):=by
    rcases HE.out with⟨_,a⟩| ⟨a,_⟩
    ·exact a
    ·omega
   have hge:¬ (k:Int)<N:=by omega
   go_wp2_with fail
   go_ret2
   obtain⟨rfl,rfl⟩:=HA.out
   exact⟨rfl,HB.out.below⟩

set_option maxHeartbeats 400000 in
theorem sW (W:Int) (p:Option Addr) (b off c:Nat) (rs:List Rul) (A B:Int) (w:World) (h:ChkR W rs A B) (hs:RSrc w p b off rs) (hl:rs.length≤9223372036854775807) :
  Calls Tryz.prog 190 #[.agg #[.int .i64 W,.slice p rs.length c]] w fun e w'=>e=.returned (.tuple #[.int .i64 A,.int .i64 B])∧Below w.heap.size w w':=by
 cases h with
 | long h=>
  generalize rs.length=N at *
  have h':(64:Int)<N:=by omega
  clear hs h
  go_enter Tryz.func190,Tryz.ntmps190
  go_wp2_with fail
  go_ret2
  exact⟨rfl,(Below.refl w.heap.size w).alloc (Nat.le_refl _) _⟩
 | week h h2=>
  generalize rs.length=N at *
  have h':¬ (64:Int)<N:=by omega
  clear hs h
  rcases (show W<0∨(¬ W<0∧127≤W) by omega) with a | ⟨a,a2⟩
  all_goals
   clear h2
   go_enter Tryz.func190,Tryz.ntmps190
   go_wp2_with fail
   go_ret2
   exact⟨rfl,(Below.refl w.heap.size w).alloc (Nat.le_refl _) _⟩
 | rule k h1 h2 h3 h4 h5=>exact qA W p b off c rs k 60 k w h2 hs h1 (by omega) h5 (Or.inr ⟨h3,h4,rfl,rfl⟩)
 | ok h=>exact qA W p b off c rs rs.length 0 0 w ⟨h.w0,h.w1⟩ hs h.len (Nat.le_refl _) (fun j hj=>h.fit _ (lC hj)) (Or.inl ⟨rfl,rfl,rfl⟩)
end Go.Proofs.YtcmbfflemoccmaaGreat
