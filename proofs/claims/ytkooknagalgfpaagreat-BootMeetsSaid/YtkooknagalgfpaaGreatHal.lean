/-  -/
import Derived.Test.YtkooknagalgfpaaGreatDLen
import Derived.Deep.RegionWith
import Derived.Test.YtkooknagalgfpaaGreatHad
import Derived.Laws.BitsAllLaws
import Derived.Laws.Bits64b
namespace Go.Proofs.YtkooknagalgfpaaGreat
open Go.RowKit

def ymB (y m:Int):Prop:=1900≤y∧y≤2199∧1≤m∧m≤12

theorem eL (y:Int) (w:World) :
  Calls Tryz.prog 251 #[.int .i64 y] w fun e w'=>e=.returned (.bool (decide (1900≤y∧y≤2199)))∧w'=w:=by
 by_cases h1:1900≤y<;>by_cases h2:y≤2199
 all_goals
  first | rw [decide_eq_true (⟨h1,h2⟩:1900≤y∧y≤2199)] | rw [decide_eq_false (fun h:1900≤y∧y≤2199=>by omega)]
  go_enter Tryz.func251,Tryz.ntmps251
  go_wp2
  go_ret
  exact⟨rfl,rfl⟩

theorem dB (y m:Int) (w:World) (h:ymB y m) :
  Calls Tryz.prog 230 #[.int .i64 y,.int .i64 m] w fun e w'=>e=.returned (.tuple #[.int .i64 (bt y m),.int .i64 0])∧w'=w:=by
 obtain⟨h1,h2,h3,h4⟩:=h
 have hy:=eL y
 rw [decide_eq_true (⟨h1,h2⟩:1900≤y∧y≤2199)] at hy
 have HL:=hideS (eK y m w h3 h4)
 have HY:=hideS hy
 clear hy
 generalize bt y m=L at *
 go_enter Tryz.func230,Tryz.ntmps230
 go_wp2_with (first | (go_at_call 251;refine (HY.out _).mono ?_;rintro e w' ⟨rfl,rfl⟩) | (go_at_call 250;refine HL.out.mono ?_;rintro e w' ⟨rfl,rfl⟩))
 go_ret2
 exact⟨rfl,rfl⟩
theorem iF (y m:Int) (w:World) (h:¬ ymB y m) :
  Calls Tryz.prog 230 #[.int .i64 y,.int .i64 m] w fun e w'=>e=.returned (.tuple #[.int .i64 0,.int .i64 50])∧w'=w:=by
 unfold ymB at h
 by_cases hy0:1900≤y∧y≤2199
 ·have hy:=eL y
  rw [decide_eq_true hy0] at hy
  have HY:=hideS hy
  clear hy
  rcases (show m<1∨(1≤m∧12<m) by omega) with hm | ⟨hm,hm'⟩
  all_goals
   clear h hy0
   go_enter Tryz.func230,Tryz.ntmps230
   go_wp2_with (go_at_call 251;refine (HY.out _).mono ?_;rintro e w' ⟨rfl,rfl⟩)
   go_ret2
   exact⟨rfl,rfl⟩
 ·have hy:=eL y
  rw [decide_eq_false hy0] at hy
  have HY:=hideS hy
  clear hy h hy0
  go_enter Tryz.func230,Tryz.ntmps230
  go_wp2_with (go_at_call 251;refine (HY.out _).mono ?_;rintro e w' ⟨rfl,rfl⟩)
  go_ret2
  exact⟨rfl,rfl⟩

theorem sQ (y:Int) (w:World) (h:0≤y) (h':y≤3000) :
  Calls Tryz.prog 252 #[.int .i64 y] w fun e w'=>e=.returned (.int .i64 (nR y))∧w'=w:=by
 unfold nR
 go_enter Tryz.func252,Tryz.ntmps252
 go_wp2
 go_ret
 exact⟨rfl,rfl⟩

theorem iG (y:Int) (w:World) (h:1900≤y) (h':y≤2200) :
  Calls Tryz.prog 237 #[.int .i64 y] w fun e w'=>e=.returned (.int .i64 (nyI y))∧w'=w:=by
 have H1:=hideS (sQ (y - 1) w (by omega) (by omega))
 have H2:=hideS (sQ 1899 w (by omega) (by omega))
 have e2:nR 1899=460:=by decide
 rw [e2] at H2
 unfold nyI
 have hl:0≤nR (y - 1)∧nR (y - 1)≤3000:=by unfold nR;omega
 obtain⟨l1,l2⟩:=hl
 generalize nR (y - 1)=L at *
 clear e2
 go_enter Tryz.func237,Tryz.ntmps237
 go_wp2_with (first | (go_at_call_of 252 (Value.int IntKind.i64 1899);refine H2.out.mono ?_;rintro e w' ⟨rfl,rfl⟩) | (go_at_call 252;refine H1.out.mono ?_;rintro e w' ⟨rfl,rfl⟩))
 go_ret
 exact⟨rfl,rfl⟩

set_option maxHeartbeats 400000 in
theorem iH (y m d:Int) (w:World) (h:okD y m d) :
  Calls Tryz.prog 232 #[.int .i64 y,.int .i64 m,.int .i64 d] w fun e w'=>e=.returned (.tuple #[.int .i64 (ay y m d),.int .i64 0])∧w'=w:=by
 obtain⟨h1,h2,h3,h4,h5,h6⟩:=h
 have HL:=hideS (dB y m w ⟨h1,h2,h3,h4⟩)
 have HN:=hideS (iG y w h1 (by omega))
 have hl:=gG y m
 have HLen:=hideS (fun (k:Int) (wx:World) (a:1≤k) (b:k≤12)=>eK y k wx a b)
 have HD:Hid (ay y m d=nyI y+d - 1+cm y m):=by show _=_;unfold ay;omega
 have n1:0≤nyI y:=by have:=np h1;omega
 have n2:nyI y≤110000:=by have:=nr h1;omega
 obtain⟨R,hR⟩:∃ R,ay y m d=R:=⟨_,rfl⟩
 rw [hR] at HD ⊢
 clear hR
 obtain⟨L,hL⟩:∃ L,bt y m=L:=⟨_,rfl⟩
 rw [hL] at HL h6 hl
 clear hL
 obtain⟨N,hN⟩:∃ N,nyI y=N:=⟨_,rfl⟩
 rw [hN] at HN n1 n2 HD
 clear hN
 go_enter Tryz.func232,Tryz.ntmps232
 go_wp2_with (first | (go_at_call 230;refine HL.out.mono ?_;rintro e w' ⟨rfl,rfl⟩) | (go_at_call 237;refine HN.out.mono ?_;rintro e w' ⟨rfl,rfl⟩))
 clear HL HN
 go_loop [35,10] (fun i n=>∃ (k:Nat) (C:Int),(k:Int)+1≤m∧0≤C∧C≤200000∧i=.int .i64 k∧n=.int .i64 C∧Hid (C=N+d - 1+cm y (k+1))) (fun i _=>(m - intOf i).toNat)
 case atStart=>exact⟨0,N+d - 1,by omega,by omega,by omega,rfl,rfl,by show _=_;rw [show (((0:Nat):Int)+1)=1 by rfl,eE];omega⟩
 case round=>
  obtain⟨k,C,hk,hC0,hC1,rfl,rfl,HC⟩:=hrel
  by_cases hlt:(k:Int)+1<m
  ·have H:=hideS (fun wx=>HLen.out (k+1) wx (by omega) (by omega))
   have HN:Hid (C+bt y (k+1)=N+d - 1+cm y (((k+1:Nat):Int)+1)):=by
    show _=_
    rw [HC.out,show (((k+1:Nat):Int)+1)=(k:Int)+1+1 by omega,fY (m:=(k:Int)+1) (by omega) (by omega)];omega
   have HB:Hid (cm y (((k+1:Nat):Int)+1)≤366):=GR (by omega) (by omega)
   have l1:=cV y (k+1)
   have l2:=gG y (k+1)
   generalize bt y (k+1)=l at *
   have hlt':(k:Int)<m - 1:=by omega
   go_wp2_with (go_at_call 250;refine (H.out _).mono ?_;rintro e w' ⟨rfl,rfl⟩)
   go_round
   case rel=>exact⟨k+1,C+l,by omega,by omega,by have:=HN.out;have:=HB.out;omega,by go_num,rfl,HN⟩
   case measure=>simp [intOf];omega
  ·have hm:m=(k:Int)+1:=by omega
   have HR:Hid (C=R):=by show _=_;rw [HC.out,HD.out,hm]
   have hge:¬ (k:Int)<m - 1:=by omega
   clear HC HD hm
   go_wp2_with fail
   go_ret2
   obtain rfl:=HR.out
   exact⟨rfl,rfl⟩

theorem LA (y m d:Int) (w:World) (h:¬ okD y m d) :
  Calls Tryz.prog 232 #[.int .i64 y,.int .i64 m,.int .i64 d] w fun e w'=>e=.returned (.tuple #[.int .i64 0,.int .i64 50])∧w'=w:=by
 by_cases hy:ymB y m
 ·have HL:=hideS (dB y m w hy)
  obtain⟨h1,h2,h3,h4⟩:=hy
  unfold okD at h
  have l1:=cV y m
  generalize bt y m=L at *
  rcases (show d<1∨(1≤d∧L<d) by omega) with hd | ⟨hd,hd'⟩
  all_goals
   clear h
   go_enter Tryz.func232,Tryz.ntmps232
   go_wp2_with (go_at_call 230;refine HL.out.mono ?_;rintro e w' ⟨rfl,rfl⟩)
   go_ret2
   exact⟨rfl,rfl⟩
 ·have HL:=hideS (iF y m w hy)
  clear hy h
  go_enter Tryz.func232,Tryz.ntmps232
  go_wp2_with (go_at_call 230;refine HL.out.mono ?_;rintro e w' ⟨rfl,rfl⟩)
  go_ret2
  exact⟨rfl,rfl⟩
end Go.Proofs.YtkooknagalgfpaaGreat
namespace Go.Proofs.YtkooknagalgfpaaGreat
open Go.RowKit

end Go.Proofs.YtkooknagalgfpaaGreat
namespace Go.Proofs.YtkooknagalgfpaaGreat
open Go.RowKit

def OB (n:Int):Int:=n+(9 - n) % 7
def jX (y m:Int):Int:=OB (ay y m 1)+14
theorem eF {y m:Int} (h:ymB y m) (d:Int) (h1:1≤d) (h2:d≤28):okD y m d:=by
 obtain⟨a,b,c,e⟩:=h
 have:=cV y m
 exact⟨a,b,c,e,h1,by omega⟩
theorem GU (y m:Int) (w:World) (h:ymB y m) :
  Calls Tryz.prog 231 #[.int .i64 y,.int .i64 m] w fun e w'=>e=.returned (.tuple #[.int .i64 (jX y m),.int .i64 0])∧w'=w:=by
 have HO:=hideS (iH y m 1 w (eF h 1 (by omega) (by omega)))
 obtain⟨n0,n1⟩:=(jW (eF h 1 (by omega) (by omega))).range
 unfold jX OB
 generalize ay y m 1=n at *
 clear h
 go_enter Tryz.func231,Tryz.ntmps231
 go_wp2_with (go_at_call 232;refine HO.out.mono ?_;rintro e w' ⟨rfl,rfl⟩)
 go_ret2
 exact⟨rfl,rfl⟩
def iI (y:Int):Int:=ay y (eaT y / 31) (eaT y % 31+1)

structure EaW (y a b c d e f g h i k l m t:Int):Prop where
 fa:y % 19=a
 fb:y / 100=b
 fc:y % 100=c
 fd:b / 4=d
 fe:b % 4=e
 ff:(b+8) / 25=f
 fg:(b - f+1) / 3=g
 fh:(19*a+b - d - g+15) % 30=h
 fi:c / 4=i
 fk:c % 4=k
 fl:(32+2*e+2*i - h - k) % 7=l
 fm:(a+11*h+22*l) / 451=m
 ft:h+l - 7*m+114=t
theorem OC (y:Int):∃ a b c d e f g h i k l m,EaW y a b c d e f g h i k l m (eaT y):=
 ⟨_,_,_,_,_,_,_,_,_,_,_,_,⟨rfl,rfl,rfl,rfl,rfl,rfl,rfl,rfl,rfl,rfl,rfl,rfl,rfl⟩⟩

set_option maxHeartbeats 800000 in
theorem wW (y:Int) (w:World) (h0:1900≤y) (h1:y≤2199) :
  Calls Tryz.prog 302 #[.int .i64 y] w fun e w'=>e=.returned (.tuple #[.int .i64 (eaT y / 31),.int .i64 (eaT y % 31+1)])∧w'=w:=by
 obtain⟨a,b,c,d,e,f,g,h,i,k,l,m,H⟩:=OC y
 have t0:=(sP h0 h1).pos
 have t1:=(sP h0 h1).small
 generalize eaT y=t at *
 obtain⟨ea,eb,ec,ed,ee,ef,eg,eh,ei,ek,el,em,et⟩:=H
 have a0:0≤a∧a≤18:=by omega
 have b0:19≤b∧b≤21:=by omega
 have c0:0≤c∧c≤99:=by omega
 have d0:0≤d∧d≤5:=by omega
 have e0:0≤e∧e≤3:=by omega
 have f0:0≤f∧f≤2:=by omega
 have g0:0≤g∧g≤8:=by omega
 have hx:0≤h∧h≤29:=by omega
 have i0:0≤i∧i≤24:=by omega
 have k0:0≤k∧k≤3:=by omega
 have l0:0≤l∧l≤6:=by omega
 have m0:0≤m∧m≤2:=by omega
 obtain⟨a0,a1⟩:=a0
 obtain⟨b0,b1⟩:=b0
 obtain⟨c0,c1⟩:=c0
 obtain⟨d0,d1⟩:=d0
 obtain⟨e0,e1⟩:=e0
 obtain⟨f0,f1⟩:=f0
 obtain⟨g0,g1⟩:=g0
 obtain⟨hx,hx1⟩:=hx
 obtain⟨i0,i1⟩:=i0
 obtain⟨k0,k1⟩:=k0
 obtain⟨l0,l1⟩:=l0
 obtain⟨m0,m1⟩:=m0
 go_enter Tryz.func302,Tryz.ntmps302
 go_wp2_with fail
 go_ret2
 exact⟨rfl,rfl⟩

theorem DP (y:Int) (w:World) (h0:1900≤y) (h1:y≤2199) :
  Calls Tryz.prog 301 #[.int .i64 y] w fun e w'=>e=.returned (.tuple #[.int .i64 (iI y),.int .i64 0])∧w'=w:=by
 have HY:Hid (∀ w,Calls Tryz.prog 251 #[.int .i64 y] w fun e w'=>e=.returned (.bool true)∧w'=w):=fun w=>by
  have hy:=eL y w
  rw [decide_eq_true (⟨h0,h1⟩:1900≤y∧y≤2199)] at hy;exact hy
 have HE:=hideS (wW y w h0 h1)
 have HO:=hideS (iH y (eaT y / 31) (eaT y % 31+1) w (sP h0 h1).ok)
 unfold iI
 generalize ay y (eaT y / 31) (eaT y % 31+1)=R at *
 generalize eaT y / 31=M at *
 generalize eaT y % 31+1=D at *
 go_enter Tryz.func301,Tryz.ntmps301
 go_wp2_with (first | (go_at_call 251;refine (HY.out _).mono ?_;rintro e w' ⟨rfl,rfl⟩) | (go_at_call 302;refine HE.out.mono ?_;rintro e w' ⟨rfl,rfl⟩) | (go_at_call 232;refine HO.out.mono ?_;rintro e w' ⟨rfl,rfl⟩))
 go_ret2
 exact⟨rfl,rfl⟩
theorem Al (y:Int) (w:World) (h:¬ (1900≤y∧y≤2199)) :
  Calls Tryz.prog 301 #[.int .i64 y] w fun e w'=>e=.returned (.tuple #[.int .i64 0,.int .i64 50])∧w'=w:=by
 have HY:Hid (∀ w,Calls Tryz.prog 251 #[.int .i64 y] w fun e w'=>e=.returned (.bool false)∧w'=w):=fun w=>by
  have hy:=eL y w
  rw [decide_eq_false h] at hy;exact hy
 clear h
 go_enter Tryz.func301,Tryz.ntmps301
 go_wp2_with (go_at_call 251;refine (HY.out _).mono ?_;rintro e w' ⟨rfl,rfl⟩)
 go_ret2
 exact⟨rfl,rfl⟩

end Go.Proofs.YtkooknagalgfpaaGreat
namespace Go.Proofs.YtkooknagalgfpaaGreat
open Go.RowKit

theorem Am {W n:Int} {u d u' d':Nat} (h:Ups W n u d) (h':Ups W n u' d'):u=u'∧d=d':=by
 constructor
 ·rcases Nat.lt_trichotomy u u' with e | e | e
  ·have:=h'.uo u e;rw [h.uf] at this;exact Bool.noConfusion this
  ·exact e
  ·have:=h.uo u' e;rw [h'.uf] at this;exact Bool.noConfusion this
 ·rcases Nat.lt_trichotomy d d' with e | e | e
  ·have:=h'.dn d e;rw [h.df] at this;exact Bool.noConfusion this
  ·exact e
  ·have:=h.dn d' e;rw [h'.df] at this;exact Bool.noConfusion this
open Classical in
noncomputable def mvI (W n mv:Int):Int:=if h:∃ p:Nat×Nat,Ups W n p.1 p.2 then cB W n mv h.choose.1 h.choose.2 else n
theorem wX {W n mv:Int} {u d:Nat} (h:Ups W n u d):mvI W n mv=cB W n mv u d:=by
 have hx:∃ p:Nat×Nat,Ups W n p.1 p.2:=⟨(u,d),h⟩
 unfold mvI
 rw [dif_pos hx]
 have e:=Am hx.choose_spec h
 rw [e.1,e.2]
def sR (m:Int):Int:=if m=2 then 29 else if m=4∨m=6∨m=9∨m=11 then 30 else 31
def bW (r:Rul):Bool:=
 if r.kind=4 then decide (r.mon=0∧r.nth=0∧r.wd=0∧r.off=0∧r.fr=0∧r.to=0∧r.mv=0∧0≤r.day∧r.day≤109572)
 else decide (1900≤r.fr∧r.fr≤2199∧r.fr≤r.to∧r.to≤2199∧0≤r.mv∧r.mv≤2)&&
  (if r.kind=1 then decide (r.nth=0∧r.wd=0∧r.off=0∧1≤r.mon∧r.mon≤12∧1≤r.day∧r.day≤sR r.mon)
  else if r.kind=2 then decide (r.day=0∧r.off=0∧1≤r.mon∧r.mon≤12∧0≤r.wd∧r.wd≤6∧1≤r.nth∧r.nth≤5)
  else if r.kind=3 then decide (r.mon=0∧r.day=0∧r.nth=0∧r.wd=0∧-100≤r.off∧r.off≤100) else false)
theorem fit_cases {r:Rul} (h:bW r=true) :
  (r.kind=4∧0≤r.day∧r.day≤109572∧r.mv=0)∨
  ((1900≤r.fr∧r.fr≤r.to∧r.to≤2199∧0≤r.mv∧r.mv≤2)∧
   ((r.kind=1∧1≤r.mon∧r.mon≤12∧1≤r.day∧r.day≤sR r.mon)∨(r.kind=2∧1≤r.mon∧r.mon≤12∧0≤r.wd∧r.wd≤6∧1≤r.nth∧r.nth≤5)∨(r.kind=3∧-100≤r.off∧r.off≤100))):=by
 unfold bW at h
 by_cases k4:r.kind=4
 ·rw [if_pos k4,decide_eq_true_eq] at h
  exact Or.inl ⟨k4,h.2.2.2.2.2.2.2.1,h.2.2.2.2.2.2.2.2,h.2.2.2.2.2.2.1⟩
 ·rw [if_neg k4,Bool.and_eq_true,decide_eq_true_eq] at h
  obtain⟨⟨a,b,c,d,e,f⟩,h⟩:=h
  refine Or.inr ⟨⟨a,c,d,e,f⟩,?_⟩
  by_cases k1:r.kind=1
  ·rw [if_pos k1,decide_eq_true_eq] at h
   exact Or.inl ⟨k1,h.2.2.2⟩
  ·rw [if_neg k1] at h
   by_cases k2:r.kind=2
   ·rw [if_pos k2,decide_eq_true_eq] at h
    exact Or.inr (Or.inl ⟨k2,h.2.2⟩)
   ·rw [if_neg k2] at h
    by_cases k3:r.kind=3
    ·rw [if_pos k3,decide_eq_true_eq] at h
     exact Or.inr (Or.inr ⟨k3,h.2.2.2.2⟩)
    ·rw [if_neg k3] at h;exact Bool.noConfusion h
open Classical in
noncomputable def nt (r:Rul) (y:Int):Option Int:=
 if y<r.fr∨r.to<y then none
 else if r.kind=1 then (if okD y r.mon r.day then some (ay y r.mon r.day) else none)
 else if r.kind=2 then some (DO y r.mon r.wd r.nth)
 else if r.kind=3 then some (iI y+r.off) else some 0
noncomputable def GV (W:Int) (r:Rul) (y:Int):Option Int:=(nt r y).map (fun n=>mvI W n r.mv)
noncomputable def LB (W:Int) (r:Rul) (n Y:Int):Bool:=
 if r.kind=4 then r.day==n else GV W r (Y - 1)==some n||GV W r Y==some n||GV W r (Y+1)==some n
noncomputable def uB (W:Int) (rs:List Rul) (n Y:Int):Bool:=rs.any fun r=>LB W r n Y
theorem LC {y m wd k:Int} (h:ymB y m) (_d0:0≤wd) (_d1:wd≤6) (k1:1≤k) (k5:k≤5):0≤DO y m wd k∧DO y m wd k≤110000:=by
 obtain⟨f0,f1⟩:=(jW (eF h 1 (by omega) (by omega))).range
 have l0:=cV y m
 show 0≤(if k=5∧ay y m 1+bt y m≤ay y m 1+(wd - ay y m 1) % 7+7*(k - 1) then ay y m 1+(wd - ay y m 1) % 7+7*(k - 1) - 7 else ay y m 1+(wd - ay y m 1) % 7+7*(k - 1))∧(if k=5∧ay y m 1+bt y m≤ay y m 1+(wd - ay y m 1) % 7+7*(k - 1) then ay y m 1+(wd - ay y m 1) % 7+7*(k - 1) - 7 else ay y m 1+(wd - ay y m 1) % 7+7*(k - 1))≤110000
 split<;>omega
end Go.Proofs.YtkooknagalgfpaaGreat
namespace Go.Proofs.YtkooknagalgfpaaGreat
open Go.RowKit

def fx:Rul:=⟨0,0,0,0,0,0,0,0,0⟩
structure RCells (w:World) (b o:Nat) (r:Rul):Prop where
 c0:w.cell? ⟨b,o,none⟩=some (.int .i64 r.kind)
 c1:w.cell? ⟨b,o+1,none⟩=some (.int .i64 r.mon)
 c2:w.cell? ⟨b,o+2,none⟩=some (.int .i64 r.day)
 c3:w.cell? ⟨b,o+3,none⟩=some (.int .i64 r.nth)
 c4:w.cell? ⟨b,o+4,none⟩=some (.int .i64 r.wd)
 c5:w.cell? ⟨b,o+5,none⟩=some (.int .i64 r.off)
 c6:w.cell? ⟨b,o+6,none⟩=some (.int .i64 r.fr)
 c7:w.cell? ⟨b,o+7,none⟩=some (.int .i64 r.to)
 c8:w.cell? ⟨b,o+8,none⟩=some (.int .i64 r.mv)
theorem RCells.below {w w':World} {B b o:Nat} {r:Rul} (h:RCells w b o r) (hb:Below B w w') (hB:b<B):RCells w' b o r:=
 ⟨(hb.cell (p:=⟨b,o,none⟩) hB).trans h.c0,(hb.cell (p:=⟨b,o+1,none⟩) hB).trans h.c1,(hb.cell (p:=⟨b,o+2,none⟩) hB).trans h.c2,(hb.cell (p:=⟨b,o+3,none⟩) hB).trans h.c3,(hb.cell (p:=⟨b,o+4,none⟩) hB).trans h.c4,(hb.cell (p:=⟨b,o+5,none⟩) hB).trans h.c5,(hb.cell (p:=⟨b,o+6,none⟩) hB).trans h.c6,(hb.cell (p:=⟨b,o+7,none⟩) hB).trans h.c7,(hb.cell (p:=⟨b,o+8,none⟩) hB).trans h.c8⟩
structure RSrc (w:World) (p:Option Addr) (b off:Nat) (rs:List Rul):Prop where
 at_:0<rs.length→p=some ⟨b,off,none⟩
 lt:0<rs.length→b<w.heap.size
 cell:∀ i,i<rs.length→RCells w b (off+i*9) (rs.getD i fx)
theorem RSrc.below {w w':World} {p:Option Addr} {b off:Nat} {rs:List Rul} (h:RSrc w p b off rs) (hb:Below w.heap.size w w'):RSrc w' p b off rs:=
 ⟨h.at_,fun hx=>Nat.lt_of_lt_of_le (h.lt hx) hb.size,fun j hj=>(h.cell j hj).below hb (h.lt (by omega))⟩
end Go.Proofs.YtkooknagalgfpaaGreat
namespace Go.Proofs.YtkooknagalgfpaaGreat
open Go.RowKit

open Classical in
noncomputable def yrI (n:Int):Int:=if h:∃ y m d,IsD n y m d then h.choose else 0
theorem sS {n y m d:Int} (h:IsD n y m d):yrI n=y:=by
 have hx:∃ y m d,IsD n y m d:=⟨y,m,d,h⟩
 unfold yrI
 rw [dif_pos hx]
 obtain⟨m',d',h'⟩:=hx.choose_spec
 exact (h'.unique h).1
noncomputable def opB (W:Int) (rs:List Rul) (n:Int):Bool:=!dW W n&&!uB W rs n (yrI n)
def ag (n:Int):Prop:=0≤n∧n≤109572
instance (n:Int):Decidable (ag n):=by unfold ag;infer_instance
structure OkC (W:Int) (rs:List Rul):Prop where
 len:rs.length≤64
 w0:0≤W
 w1:W≤126
 fit:∀ r ∈ rs,bW r=true
inductive ChkR (W:Int) (rs:List Rul):Int→Int→Prop where
 | long:64<rs.length→ChkR W rs 2 0
 | week:rs.length≤64→¬ (0≤W∧W≤126)→ChkR W rs 60 (-1)
 | rule (k:Nat):rs.length≤64→(0≤W∧W≤126)→k<rs.length→bW (rs.getD k fx)=false→(∀ j<k,bW (rs.getD j fx)=true)→ChkR W rs 60 k
 | ok:OkC W rs→ChkR W rs 0 0
theorem pe {rs:List Rul} {k:Nat} (h:k<rs.length):rs.getD k fx ∈ rs:=by
 rw [List.getD_eq_getElem?_getD,List.getElem?_eq_getElem h];exact List.getElem_mem h
theorem wY {rs:List Rul} {p:Rul→Bool} (h:∀ j<rs.length,p (rs.getD j fx)=true):∀ r ∈ rs,p r=true:=fun r hr=>by
 obtain⟨j,hj,rfl⟩:=List.getElem_of_mem hr
 have:=h j hj
 rw [List.getD_eq_getElem?_getD,List.getElem?_eq_getElem hj] at this
 exact this
theorem OD (W:Int) (rs:List Rul):∃ A B,ChkR W rs A B:=by
 by_cases h1:64<rs.length
 ·exact⟨_,_,.long h1⟩
 ·by_cases h2:0≤W∧W≤126
  ·by_cases h3:∃ k≤rs.length,(fun j=>decide (j=rs.length)||bW (rs.getD j fx)) k=false
   ·obtain⟨k,hk,a,b⟩:=oY (p:=fun j=>decide (j=rs.length)||bW (rs.getD j fx)) rs.length h3
    simp only [Bool.or_eq_false_iff,decide_eq_false_iff_not] at a
    refine⟨_,_,.rule k (by omega) h2 (by omega) a.2 (fun j hj=>?_)⟩
    have:=b j hj
    simp only [Bool.or_eq_true,decide_eq_true_eq] at this
    rcases this with e | e
    ·omega
    ·exact e
   ·refine⟨_,_,.ok ⟨by omega,h2.1,h2.2,wY fun j hj=>?_⟩⟩
    cases hf:bW (rs.getD j fx)
    ·exact absurd ⟨j,by omega,by simp only [hf,Bool.or_false,decide_eq_false_iff_not];omega⟩ h3
    ·rfl
  ·exact⟨_,_,.week (by omega) h2⟩
theorem OE {W:Int} {rs:List Rul} {B:Int} (h:ChkR W rs 0 B):OkC W rs∧B=0:=by
 cases h with
 | ok h=>exact⟨h,rfl⟩
open Classical in
noncomputable def moI (n:Int):Int:=if h:∃ k,∃ y m d,IsD n y m d∧k=12*y+m then h.choose else 0
theorem Qc {n y m d:Int} (h:IsD n y m d):moI n=12*y+m:=by
 have hx:∃ k,∃ y m d,IsD n y m d∧k=12*y+m:=⟨_,y,m,d,h,rfl⟩
 unfold moI
 rw [dif_pos hx]
 obtain⟨y',m',d',h',e⟩:=hx.choose_spec
 obtain⟨e1,e2,_⟩:=h'.unique h
 rw [e,e1,e2]

def cntN (op:Int→Bool) (a:Int):Nat→Nat
 | 0=>0
 | k+1=>cntN op a k+(if op (a+k) then 1 else 0)
theorem GW (op:Int→Bool) (a:Int) (k:Nat):cntN op a k≤k:=by
 induction k with
 | zero=>exact Nat.le_refl _
 | succ k ih=>show cntN op a k+(if op (a+k) then 1 else 0)≤k+1;split<;>omega

end Go.Proofs.YtkooknagalgfpaaGreat
namespace Go.Proofs.YtkooknagalgfpaaGreat
open Go.RowKit

theorem sT (n:Int) (w:World) :
  Calls Tryz.prog 234 #[.int .i64 n] w fun e w'=>e=.returned (.bool (decide (0≤n∧n≤109572)))∧w'=w:=by
 by_cases h1:0≤n<;>by_cases h2:n≤109572
 all_goals
  first | rw [decide_eq_true (⟨h1,h2⟩:0≤n∧n≤109572)] | rw [decide_eq_false (fun h:0≤n∧n≤109572=>by omega)]
  go_enter Tryz.func234,Tryz.ntmps234
  go_wp2
  go_ret
  exact⟨rfl,rfl⟩
theorem DQ (n:Int) (h:0≤n∧n≤109572) (w:World) :
  Calls Tryz.prog 234 #[.int .i64 n] w fun e w'=>e=.returned (.bool true)∧w'=w:=by
 have e:=sT n w
 rw [decide_eq_true h] at e;exact e
theorem Hd (n:Int) (h:¬ (0≤n∧n≤109572)) (w:World) :
  Calls Tryz.prog 234 #[.int .i64 n] w fun e w'=>e=.returned (.bool false)∧w'=w:=by
 have e:=sT n w
 rw [decide_eq_false h] at e;exact e

set_option maxHeartbeats 400000 in
theorem An (n y:Int) (w:World) (h1:1900≤y) (h2:y≤2199) (hy:nyI y≤n) (hy':n<nyI (y+1)) :
  Calls Tryz.prog 235 #[.int .i64 n] w fun e w'=>e=.returned (.int .i64 y)∧w'=w:=by
 have n0:0≤n:=by have:=np h1;omega
 have n1:n≤120000:=by have:=nr (y:=y+1) (by omega);omega
 have hs:1900+n / 366≤y:=by have:=nr (y:=y+1) (by omega);omega
 have HN:=hideS (fun (z:Int) (wx:World) (a:1900≤z) (b:z≤2200)=>iG z wx a b)
 have HY:=hideS hy
 have HY':=hideS hy'
 clear hy hy'
 go_enter Tryz.func235,Tryz.ntmps235
 go_wp2_with fail
 go_loop [3] (fun i=>∃ (j:Int),1900≤j∧j≤y∧i=.int .i64 j) (fun i=>(y - intOf i).toNat)
 case atStart=>exact⟨1900+n / 366,by omega,hs,rfl⟩
 case round=>
  obtain⟨j,hj1,hj2,rfl⟩:=hrel
  have H:=hideS (fun wx=>HN.out (j+1) wx (by omega) (by omega))
  by_cases hlt:j<y
  ·have hle:nyI (j+1)≤n:=by
    have:=dK (y:=j+1) (z:=y) (by omega) (by omega)
    have:=HY.out
    omega
   generalize nyI (j+1)=N at *
   go_wp2_with (go_at_call 237;refine (H.out _).mono ?_;rintro e w' ⟨rfl,rfl⟩)
   go_round
   case rel=>exact⟨j+1,by omega,by omega,rfl⟩
   case measure=>simp [intOf];omega
  ·obtain rfl:j=y:=by omega
   have hle:¬ nyI (j+1)≤n:=by have:=HY'.out;omega
   clear HY'
   generalize nyI (j+1)=N at *
   go_wp2_with (go_at_call 237;refine (H.out _).mono ?_;rintro e w' ⟨rfl,rfl⟩)
   go_ret
   exact⟨rfl,rfl⟩

set_option maxHeartbeats 800000 in
theorem nS (y m r:Int) (w:World) (h1:1≤m) (h2:m≤12) (hm:cm y m≤r) (hm':r<cm y (m+1)) :
  Calls Tryz.prog 236 #[.int .i64 y,.int .i64 r] w fun e w'=>e=.returned (.tuple #[.int .i64 m,.int .i64 (r - cm y m+1)])∧w'=w:=by
 have r0:0≤r:=by have:=Ak (y:=y) h1 (by omega);omega
 have r1:r≤366:=by have:=GR (y:=y) (m:=m+1) (by omega) (by omega);omega
 have HLen:=hideS (fun (k:Int) (wx:World) (a:1≤k) (b:k≤12)=>eK y k wx a b)
 have HM:=hideS hm
 have HM':=hideS hm'
 clear hm hm'
 obtain⟨D,hD⟩:∃ D,r - cm y m+1=D:=⟨_,rfl⟩
 rw [hD]
 have HD:=hideS hD
 clear hD
 go_enter Tryz.func236,Tryz.ntmps236
 go_wp2_with fail
 go_loop [7,1,4] (fun i b _=>∃ (k:Int) (C:Int),0≤k∧k+1≤m∧0≤C∧C≤366∧i=.int .i64 k∧b=.int .i64 C∧Hid (C=r - cm y (k+1))) (fun i _ _=>(m - intOf i).toNat)
 case atStart=>exact⟨0,r,by omega,by omega,by omega,by omega,rfl,rfl,by show _=_;rw [show ((0:Int)+1)=1 by rfl,eE];omega⟩
 case round=>
  obtain⟨k,C,hk0,hk,hC0,hC1,rfl,rfl,HC⟩:=hrel
  have H:=hideS (fun wx=>HLen.out (k+1) wx (by omega) (by omega))
  have l1:=cV y (k+1)
  have HS:Hid (cm y (k+1+1)=cm y (k+1)+bt y (k+1)):=fY (m:=k+1) (by omega) (by omega)
  by_cases hlt:k+1<m
  ·have hle:¬ C<bt y (k+1):=by
    have:=eJ (y:=y) (m:=k+1+1) (k:=m) (by omega) (by omega) (by omega)
    have:=HM.out
    have:=HS.out
    have:=HC.out
    omega
   have HC':Hid (C - bt y (k+1)=r - cm y (k+1+1)):=by
    show _=_
    rw [HS.out,HC.out];omega
   generalize bt y (k+1)=l at *
   go_wp2_with (go_at_call 250;refine (H.out _).mono ?_;rintro e w' ⟨rfl,rfl⟩)
   go_round
   case rel=>exact⟨k+1,C - l,by omega,by omega,by omega,by omega,rfl,rfl,HC'⟩
   case measure=>simp [intOf];omega
  ·have hle:C<bt y (k+1):=by
    have:=HM'.out
    rw [show m+1=k+1+1 by omega,HS.out] at this
    have:=HC.out
    omega
   have hm:m=k+1:=by omega
   have HE:Hid (C+1=D):=by
    show _=_
    rw [← HD.out,HC.out,hm]
   have HMk:=hideS hm
   clear hm HD HC HM HM'
   generalize bt y (k+1)=l at *
   go_wp2_with (go_at_call 250;refine (H.out _).mono ?_;rintro e w' ⟨rfl,rfl⟩)
   go_ret2
   obtain rfl:=HE.out
   obtain rfl:=HMk.out
   exact⟨rfl,rfl⟩

theorem kO {fn:Func} {t u v x:Tmp} (h:fn.results=#[.tmp t,.tmp u,.tmp v,.tmp x]) (tmps:Array Value) (P:Program) (w:World) :
  (results fn tmps).run P w=.ok (.tuple #[tmps.getD t undef,tmps.getD u undef,tmps.getD v undef,tmps.getD x undef]) w:=by
 simp [results,h]

set_option maxHeartbeats 400000 in
theorem cY (n y m d:Int) (w:World) (h:IsD n y m d) :
  Calls Tryz.prog 216 #[.int .i64 n] w fun e w'=>e=.returned (.tuple #[.int .i64 y,.int .i64 m,.int .i64 d,.int .i64 0])∧w'=w:=by
 obtain⟨n0,n1⟩:=h.range
 obtain⟨a,b⟩:=h.year
 obtain⟨a',b'⟩:=h.month
 have HY:=hideS (DQ n ⟨n0,n1⟩)
 have hd:n - nyI y - cm y m+1=d:=by have:=h.2;unfold ay at this;omega
 obtain⟨h1,h2,h3,h4,_,_⟩:=h.1
 clear h
 have H1:=hideS (fun wx=>An n y wx h1 h2 a b)
 have H2:=hideS (fun wx=>iG y wx h1 (by omega))
 have h5:=fun wx=>nS y m (n - nyI y) wx h3 h4 a' b'
 rw [hd] at h5
 have H3:=hideS h5
 have c1:=Ak (y:=y) h3 (by omega)
 have n2:=np h1
 clear h5 hd b b' a'
 generalize nyI y=N at *
 go_enter Tryz.func216,Tryz.ntmps216
 go_wp2_with (first | (go_at_call 234;refine (HY.out _).mono ?_;rintro e w' ⟨rfl,rfl⟩) | (go_at_call 235;refine (H1.out _).mono ?_;rintro e w' ⟨rfl,rfl⟩) | (go_at_call 237;refine (H2.out _).mono ?_;rintro e w' ⟨rfl,rfl⟩) | (go_at_call 236;refine (H3.out _).mono ?_;rintro e w' ⟨rfl,rfl⟩))
 (try simp only [Exit.inBlock,Exit.then])
 refine bodyPost_ret (kO rfl _ _ _) rfl ?_
 exact⟨rfl,rfl⟩
theorem sU (n:Int) (w:World) (h:¬ (0≤n∧n≤109572)) :
  Calls Tryz.prog 216 #[.int .i64 n] w fun e w'=>e=.returned (.tuple #[.int .i64 0,.int .i64 0,.int .i64 0,.int .i64 51])∧w'=w:=by
 have HY:=hideS (Hd n h)
 clear h
 go_enter Tryz.func216,Tryz.ntmps216
 go_wp2_with (go_at_call 234;refine (HY.out _).mono ?_;rintro e w' ⟨rfl,rfl⟩)
 (try simp only [Exit.inBlock,Exit.then])
 refine bodyPost_ret (kO rfl _ _ _) rfl ?_
 exact⟨rfl,rfl⟩
end Go.Proofs.YtkooknagalgfpaaGreat
namespace Go.Proofs.YtkooknagalgfpaaGreat
open Go.RowKit

end Go.Proofs.YtkooknagalgfpaaGreat
namespace Go.Proofs.YtkooknagalgfpaaGreat
open Go.RowKit

def dC (y m k:Int):Int:=12*(y - 1900)+m - 1+k
def toY (y m k:Int):Int:=1900+dC y m k / 12
def toM (y m k:Int):Int:=dC y m k % 12+1
def toD (d L l:Int) (e:Bool):Int:=if L<d then L else if e=true∧d=l then L else d
def xf (y m d k:Int) (e:Bool):Int:=ay (toY y m k) (toM y m k) (toD d (bt (toY y m k) (toM y m k)) (bt y m) e)
theorem He {d L l:Int} {e:Bool} (h:1≤d) (hL:28≤L):1≤toD d L l e∧toD d L l e≤L:=by
 unfold toD
 split
 ·omega
 ·split<;>omega
theorem LE {y m k:Int} (h0:0≤dC y m k) (h1:dC y m k<3600):ymB (toY y m k) (toM y m k):=by
 unfold ymB toY toM
 omega
theorem OF {y m d k:Int} {e:Bool} (hd:1≤d) (h0:0≤dC y m k) (h1:dC y m k<3600) :
  okD (toY y m k) (toM y m k) (toD d (bt (toY y m k) (toM y m k)) (bt y m) e):=by
 obtain⟨a,b,c,f⟩:=LE h0 h1
 have:=He (l:=bt y m) (e:=e) hd (cV (toY y m k) (toM y m k))
 exact⟨a,b,c,f,this.1,this.2⟩

set_option maxHeartbeats 1600000 in
theorem DR (n y m d k:Int) (en:Bool) (w:World) (h:IsD n y m d) (h0:0≤dC y m k) (h1:dC y m k<3600) :
  Calls Tryz.prog 229 #[.int .i64 n,.int .i64 k,.bool en] w fun e w'=>e=.returned (.tuple #[.int .i64 (xf y m d k en),.int .i64 0])∧w'=w:=by
 have HC:=hideS (cY n y m d w h)
 obtain⟨y1,y2,m1,m2,d1,d2⟩:=h.1
 have HO:=hideS (iH _ _ _ w (OF (y:=y) (m:=m) (d:=d) (k:=k) (e:=en) d1 h0 h1))
 obtain⟨a1,a2,a3,a4⟩:=LE h0 h1
 have HL1:=hideS (fun wx=>eK (toY y m k) (toM y m k) wx a3 a4)
 have HL2:=hideS (fun wx=>eK y m wx m1 m2)
 unfold xf
 have hY:1900+(12*(y - 1900)+m - 1+k) / 12=toY y m k:=rfl
 have hM:(12*(y - 1900)+m - 1+k) % 12+1=toM y m k:=rfl
 unfold dC at h0 h1
 have l1:=cV (toY y m k) (toM y m k)
 have l2:=cV y m
 clear h
 generalize toY y m k=Y at *
 generalize toM y m k=M at *
 generalize bt Y M=L at *
 generalize bt y m=l at *
 rcases (show L<d∨(d≤L∧((en=true∧d=l)∨(en=true∧d≠l)∨en=false)) by cases en<;>simp<;>omega) with hd | ⟨hd,⟨rfl,he⟩| ⟨rfl,he⟩| rfl⟩
 ·have hD:toD d L l en=L:=by unfold toD;rw [if_pos hd]
  rw [hD] at HO ⊢
  clear hD
  generalize ay Y M L=R at *
  go_enter Tryz.func229,Tryz.ntmps229
  go_wp2_with (first | (go_at_call 216;refine HC.out.mono ?_;rintro e w' ⟨rfl,rfl⟩) | (go_at_call_of 250 (Value.int IntKind.i64 Y);refine (HL1.out _).mono ?_;rintro e w' ⟨rfl,rfl⟩) | (go_at_call_of 250 (Value.int IntKind.i64 y);refine (HL2.out _).mono ?_;rintro e w' ⟨rfl,rfl⟩) | (go_at_call 232;refine HO.out.mono ?_;rintro e w' ⟨rfl,rfl⟩))
  go_ret2
  exact⟨rfl,rfl⟩
 ·have hD:toD d L l true=L:=by unfold toD;rw [if_neg (by omega),if_pos ⟨rfl,he⟩]
  rw [hD] at HO ⊢
  clear hD
  have he':(d==l)=true:=by rw [beq_iff_eq];exact he
  clear he
  generalize ay Y M L=R at *
  go_enter Tryz.func229,Tryz.ntmps229
  go_wp2_with (first | (go_at_call 216;refine HC.out.mono ?_;rintro e w' ⟨rfl,rfl⟩) | (go_at_call_of 250 (Value.int IntKind.i64 Y);refine (HL1.out _).mono ?_;rintro e w' ⟨rfl,rfl⟩) | (go_at_call_of 250 (Value.int IntKind.i64 y);refine (HL2.out _).mono ?_;rintro e w' ⟨rfl,rfl⟩) | (go_at_call 232;refine HO.out.mono ?_;rintro e w' ⟨rfl,rfl⟩))
  go_ret2
  exact⟨rfl,rfl⟩
 ·have hD:toD d L l true=d:=by unfold toD;rw [if_neg (by omega),if_neg (fun a=>he a.2)]
  rw [hD] at HO ⊢
  clear hD
  have he':(d==l)=false:=by rw [beq_eq_false_iff_ne];exact he
  clear he
  generalize ay Y M d=R at *
  go_enter Tryz.func229,Tryz.ntmps229
  go_wp2_with (first | (go_at_call 216;refine HC.out.mono ?_;rintro e w' ⟨rfl,rfl⟩) | (go_at_call_of 250 (Value.int IntKind.i64 Y);refine (HL1.out _).mono ?_;rintro e w' ⟨rfl,rfl⟩) | (go_at_call_of 250 (Value.int IntKind.i64 y);refine (HL2.out _).mono ?_;rintro e w' ⟨rfl,rfl⟩) | (go_at_call 232;refine HO.out.mono ?_;rintro e w' ⟨rfl,rfl⟩))
  go_ret2
  exact⟨rfl,rfl⟩
 ·have hD:toD d L l false=d:=by unfold toD;rw [if_neg (by omega),if_neg (fun a=>Bool.noConfusion a.1)]
  rw [hD] at HO ⊢
  clear hD
  generalize ay Y M d=R at *
  go_enter Tryz.func229,Tryz.ntmps229
  go_wp2_with (first | (go_at_call 216;refine HC.out.mono ?_;rintro e w' ⟨rfl,rfl⟩) | (go_at_call_of 250 (Value.int IntKind.i64 Y);refine (HL1.out _).mono ?_;rintro e w' ⟨rfl,rfl⟩) | (go_at_call_of 250 (Value.int IntKind.i64 y);refine (HL2.out _).mono ?_;rintro e w' ⟨rfl,rfl⟩) | (go_at_call 232;refine HO.out.mono ?_;rintro e w' ⟨rfl,rfl⟩))
  go_ret2
  exact⟨rfl,rfl⟩
theorem Ao (n y m d k:Int) (en:Bool) (w:World) (h:IsD n y m d) (hk:¬ (0≤dC y m k∧dC y m k<3600)) (k0: -9223372036854775808≤k) (k1:k≤9223372036854775807) :
  Calls Tryz.prog 229 #[.int .i64 n,.int .i64 k,.bool en] w fun e w'=>e=.returned (.tuple #[.int .i64 0,.int .i64 51])∧w'=w:=by
 have HC:=hideS (cY n y m d w h)
 obtain⟨y1,y2,m1,m2,d1,d2⟩:=h.1
 unfold dC at hk
 clear h
 rcases (show k< -(12*(y - 1900)+m - 1)∨(¬ k< -(12*(y - 1900)+m - 1)∧3600 - (12*(y - 1900)+m - 1)≤k) by omega) with hd | ⟨hd,hd'⟩
 all_goals
  clear hk
  go_enter Tryz.func229,Tryz.ntmps229
  go_wp2_with (go_at_call 216;refine HC.out.mono ?_;rintro e w' ⟨rfl,rfl⟩)
  go_ret2
  exact⟨rfl,rfl⟩
end Go.Proofs.YtkooknagalgfpaaGreat
namespace Go.Proofs.YtkooknagalgfpaaGreat
open Go.RowKit

structure Spc where
 (st en n unit stub roll conv lag:Int)
structure SpcOk (s:Spc):Prop where
 (s0:ag s.st) (e0:ag s.en) (lt:s.st<s.en) (n1:1≤s.n) (n2:s.n≤1200) (u1:1≤s.unit) (u2:s.unit≤4) (t1:1≤s.stub) (t2:s.stub≤4) (r1:0≤s.roll) (r2:s.roll≤2) (ru:s.roll=0∨3≤s.unit) (c1:0≤s.conv) (c2:s.conv≤4) (l1:0≤s.lag) (l2:s.lag≤30)
inductive SpcR (s:Spc) (A:Int):Int→Prop where
 | range:¬ (ag s.st∧ag s.en)→SpcR s A 51
 | spec:ag s.st→ag s.en→¬ SpcOk s→SpcR s A 80
 | cal:SpcOk s→SpcR s A A
theorem DS {s:Spc} (h0:ag s.st) (h1:ag s.en) (h:¬ SpcOk s) :
  s.en≤s.st∨(s.st<s.en∧¬ (1≤s.n∧s.n≤1200))∨(s.st<s.en∧(1≤s.n∧s.n≤1200)∧¬ (1≤s.unit∧s.unit≤4))∨(s.st<s.en∧(1≤s.n∧s.n≤1200)∧(1≤s.unit∧s.unit≤4)∧¬ (1≤s.stub∧s.stub≤4))∨
  (s.st<s.en∧(1≤s.n∧s.n≤1200)∧(1≤s.unit∧s.unit≤4)∧(1≤s.stub∧s.stub≤4)∧¬ (0≤s.roll∧s.roll≤2))∨
  (s.st<s.en∧(1≤s.n∧s.n≤1200)∧(1≤s.unit∧s.unit≤4)∧(1≤s.stub∧s.stub≤4)∧(0≤s.roll∧s.roll≤2)∧s.roll≠0∧s.unit<3)∨
  (s.st<s.en∧(1≤s.n∧s.n≤1200)∧(1≤s.unit∧s.unit≤4)∧(1≤s.stub∧s.stub≤4)∧(0≤s.roll∧s.roll≤2)∧(s.roll=0∨3≤s.unit)∧¬ (0≤s.conv∧s.conv≤4))∨
  (s.st<s.en∧(1≤s.n∧s.n≤1200)∧(1≤s.unit∧s.unit≤4)∧(1≤s.stub∧s.stub≤4)∧(0≤s.roll∧s.roll≤2)∧(s.roll=0∨3≤s.unit)∧(0≤s.conv∧s.conv≤4)∧¬ (0≤s.lag∧s.lag≤30)):=by
 by_cases a1:s.st<s.en
 ·by_cases a2:1≤s.n∧s.n≤1200
  ·by_cases a3:1≤s.unit∧s.unit≤4
   ·by_cases a4:1≤s.stub∧s.stub≤4
    ·by_cases a5:0≤s.roll∧s.roll≤2
     ·by_cases a6:s.roll≠0∧s.unit<3
      ·exact Or.inr (Or.inr (Or.inr (Or.inr (Or.inr (Or.inl ⟨a1,a2,a3,a4,a5,a6⟩)))))
      ·have a6':s.roll=0∨3≤s.unit:=by omega
       by_cases a7:0≤s.conv∧s.conv≤4
       ·refine Or.inr (Or.inr (Or.inr (Or.inr (Or.inr (Or.inr (Or.inr ⟨a1,a2,a3,a4,a5,a6',a7,fun a8=>h ?_⟩))))))
        exact⟨h0,h1,a1,a2.1,a2.2,a3.1,a3.2,a4.1,a4.2,a5.1,a5.2,a6',a7.1,a7.2,a8.1,a8.2⟩
       ·exact Or.inr (Or.inr (Or.inr (Or.inr (Or.inr (Or.inr (Or.inl ⟨a1,a2,a3,a4,a5,a6',a7⟩))))))
     ·exact Or.inr (Or.inr (Or.inr (Or.inr (Or.inl ⟨a1,a2,a3,a4,a5⟩))))
    ·exact Or.inr (Or.inr (Or.inr (Or.inl ⟨a1,a2,a3,a4⟩)))
   ·exact Or.inr (Or.inr (Or.inl ⟨a1,a2,a3⟩))
  ·exact Or.inr (Or.inl ⟨a1,a2⟩)
 ·exact Or.inl (by omega)

def bF (s:Spc) (k:Int):Int:=if s.unit=2∨s.unit=4 then (if s.unit=2 then 7 else 12)*(k*s.n) else k*s.n
open Classical in
noncomputable def fZ (roll y m d k:Int):Option Int:=
 if 0≤dC y m k∧dC y m k<3600 then some (if roll=0 then xf y m d k false else if roll=1 then ay (toY y m k) (toM y m k) (bt (toY y m k) (toM y m k)) else jX (toY y m k) (toM y m k)) else none
open Classical in
noncomputable def ptO (s:Spc) (a k:Int):Option Int:=
 if ¬ ag a then none
 else if s.unit≤2 then (if ag (a+bF s k) then some (a+bF s k) else none)
 else if h:∃ p:Int×Int×Int,IsD a p.1 p.2.1 p.2.2 then fZ s.roll h.choose.1 h.choose.2.1 h.choose.2.2 (bF s k) else none
theorem kP {s:Spc} {a k:Int} (ha:ag a) (hu:s.unit≤2):ptO s a k=if ag (a+bF s k) then some (a+bF s k) else none:=by
 unfold ptO
 rw [if_neg (fun h=>h ha),if_pos hu]
theorem gg {s:Spc} {a k y m d:Int} (hd:IsD a y m d) (hu:¬ s.unit≤2):ptO s a k=fZ s.roll y m d (bF s k):=by
 have hx:∃ p:Int×Int×Int,IsD a p.1 p.2.1 p.2.2:=⟨(y,m,d),hd⟩
 unfold ptO
 rw [if_neg (fun h=>h ⟨hd.range.1,hd.range.2⟩),if_neg hu,dif_pos hx]
 obtain⟨e1,e2,e3⟩:=hx.choose_spec.unique hd
 rw [e1,e2,e3]
theorem Cr {s:Spc} {a k:Int} (ha:¬ ag a):ptO s a k=none:=by
 unfold ptO
 rw [if_pos ha]
theorem LF {k n:Int} (hn:1≤n):(200000<k→200000<k*n)∧(k< -200000→k*n< -200000):=by
 refine⟨fun h=>?_,fun h=>?_⟩
 ·have:=Int.mul_le_mul_of_nonneg_left hn (show 0≤k by omega)
  omega
 ·have:=Int.mul_le_mul_of_nonneg_left hn (show 0≤-k by omega)
  rw [Int.neg_mul,Int.neg_mul] at this
  omega
theorem Hf {s:Spc} {k:Int} (hn:1≤s.n) (hk:k< -200000∨200000<k):bF s k< -200000∨200000<bF s k:=by
 have h:=LF (k:=k) hn
 unfold bF
 split
 ·split<;>omega
 ·omega
theorem OG {s:Spc} {a k:Int} (hn:1≤s.n) (hk:k< -200000∨200000<k):ptO s a k=none:=by
 have hb:=Hf hn hk
 by_cases ha:ag a
 ·by_cases hu:s.unit≤2
  ·rw [kP ha hu,if_neg (fun h=>by have h1:=h.1;have h2:=h.2;have:=ha.1;have:=ha.2;omega)]
  ·obtain⟨y,m,d,hd⟩:=cW ha.1 ha.2
   rw [gg hd hu]
   unfold fZ
   obtain⟨y0,y1,m0,m1,_,_⟩:=hd.1
   rw [if_neg (fun h=>by unfold dC at h;omega)]
 ·exact Cr ha
end Go.Proofs.YtkooknagalgfpaaGreat
namespace Go.Proofs.YtkooknagalgfpaaGreat
open Go.RowKit

def uD (s:Spc):Int:=if s.stub≤2 then s.en else s.st
def Ap (s:Spc):Int:=if s.stub≤2 then s.st else s.en
def sgnI (s:Spc):Int:=if s.stub≤2 then -1 else 1
noncomputable def pkO (s:Spc) (k:Nat):Option Int:=ptO s (uD s) (k*sgnI s)
def OH (s:Spc):Option Int→Bool
 | none=>true
 | some x=>if s.stub≤2 then decide (x≤s.st) else decide (s.en≤x)
structure DatR (s:Spc) (K:Nat):Prop where
 ins:∀ j<K,OH s (pkO s (j+1))=false
 out:OH s (pkO s (K+1))=true
theorem OI {s:Spc} (h:SpcOk s):∃ K,DatR s K:=by
 obtain⟨K,_,a,b⟩:=oY (p:=fun j=>!OH s (pkO s (j+1))) 200001 ⟨200001,Nat.le_refl _,by
  have:pkO s (200001+1)=none:=by
   unfold pkO
   refine OG h.n1 ?_
   unfold sgnI
   split
   ·exact Or.inl (by omega)
   ·exact Or.inr (by omega)
  simp only [this];rfl⟩
 exact⟨K,fun j hj=>by have:=b j hj;simpa using this,by simpa using a⟩
noncomputable def jG (s:Spc) (K:Nat):List Int:=(List.range K).map fun j=>(pkO s (j+1)).getD 0
theorem nX (s:Spc) (K:Nat):(jG s K).length=K:=by unfold jG;simp
theorem Hg (s:Spc) (K:Nat):jG s (K+1)=jG s K++[(pkO s (K+1)).getD 0]:=by
 unfold jG;rw [List.range_succ,List.map_append];rfl
theorem nY {s:Spc} {K j:Nat} (h:j<K):(jG s K).getD j 0=(pkO s (j+1)).getD 0:=by unfold jG;simp [List.getD,h]
theorem Hh {s:Spc} {K j:Nat} (h:DatR s K) (hj:j<K):∃ x,pkO s (j+1)=some x∧(if s.stub≤2 then s.st<x else x<s.en):=by
 have:=h.ins j hj
 cases hp:pkO s (j+1) with
 | none=>rw [hp] at this;exact Bool.noConfusion this
 | some x=>
  rw [hp] at this
  refine⟨x,rfl,?_⟩
  have h2:(if s.stub≤2 then decide (x≤s.st) else decide (s.en≤x))=false:=this
  by_cases hs:s.stub≤2
  ·rw [if_pos hs] at h2 ⊢
   have:=of_decide_eq_false h2
   omega
  ·rw [if_neg hs] at h2 ⊢
   have:=of_decide_eq_false h2
   omega
noncomputable def eN (s:Spc) (K:Nat):Bool:=pkO s (K+1)==some (Ap s)
noncomputable def jH (s:Spc) (K:Nat):Nat:=if (s.stub=2∨s.stub=4)∧eN s K=false∧0<K then K - 1 else K
theorem Hi (s:Spc) (K:Nat):jH s K≤K:=by unfold jH;split<;>omega
noncomputable def jY (s:Spc) (C i:Nat):Int:=if s.stub≤2 then (pkO s (C - i)).getD 0 else (pkO s (i+1)).getD 0
noncomputable def mf (s:Spc) (C:Nat):List Int:=s.st::((List.range C).map (jY s C)++[s.en])
theorem Cs (s:Spc) (C:Nat):(mf s C).length=C+2:=by unfold mf;simp
theorem LG {s:Spc} {K C i:Nat} (hC:C≤K) (hi:i<C):(jG s K).getD (if s.stub≤2 then C - 1 - i else i) 0=jY s C i:=by
 unfold jY
 by_cases hs:s.stub≤2
 ·rw [if_pos hs,if_pos hs,nY (by omega),show C - 1 - i+1=C - i by omega]
 ·rw [if_neg hs,if_neg hs,nY (by omega)]

end Go.Proofs.YtkooknagalgfpaaGreat
namespace Go.Proofs.YtkooknagalgfpaaGreat
open Go.RowKit

theorem Aq {n n' y m d y' m' d':Int} (h:IsD n y m d) (h':IsD n' y' m' d') (hm:12*y+m<12*y'+m'):n<n':=by
 obtain⟨a0,a1⟩:=h.year
 obtain⟨b0,b1⟩:=h'.year
 obtain⟨y0,y1,m0,m1,_,_⟩:=h.1
 obtain⟨y0',y1',m0',m1',_,_⟩:=h'.1
 by_cases e:y<y'
 ·have:=dK (y:=y+1) (z:=y') (by omega) (by omega)
  omega
 ·obtain rfl:y=y':=by omega
  have c:=h.month
  have c':=h'.month
  have:=eJ (y:=y) (m:=m+1) (k:=m') (by omega) (by omega) (by omega)
  omega
theorem DT {y m:Int} (h:ymB y m):∃ d,IsD (jX y m) y m d:=by
 refine⟨15+(9 - ay y m 1) % 7,eF h _ (by omega) (by omega),?_⟩
 unfold jX OB ay
 omega
theorem nZ (y m k:Int):12*toY y m k+toM y m k=22801+dC y m k:=by
 unfold toY toM
 omega
theorem iJ {roll y m d k x:Int} (hd:1≤d) (h:fZ roll y m d k=some x):∃ d',IsD x (toY y m k) (toM y m k) d':=by
 unfold fZ at h
 by_cases hr:0≤dC y m k∧dC y m k<3600
 ·rw [if_pos hr] at h
  have e:=Option.some.inj h
  have hym:=LE hr.1 hr.2
  by_cases r0:roll=0
  ·rw [if_pos r0] at e
   have hl:=cV (toY y m k) (toM y m k)
   have ht:=He (l:=bt y m) (e:=false) hd hl
   exact⟨_,⟨hym.1,hym.2.1,hym.2.2.1,hym.2.2.2,ht.1,ht.2⟩,e.symm⟩
  ·rw [if_neg r0] at e
   by_cases r1:roll=1
   ·rw [if_pos r1] at e
    have hl:=cV (toY y m k) (toM y m k)
    exact⟨_,⟨hym.1,hym.2.1,hym.2.2.1,hym.2.2.2,by omega,Int.le_refl _⟩,e.symm⟩
   ·rw [if_neg r1] at e
    rw [← e]
    exact DT hym
 ·rw [if_neg hr] at h
  cases h
theorem mh {s:Spc} {a k x:Int} (h:ptO s a k=some x):ag a:=Classical.byContradiction fun ha=>by
 rw [Cr ha] at h;cases h
theorem OJ {s:Spc} {a k x:Int} (h:ptO s a k=some x):ag x:=by
 have ha:=mh h
 by_cases hu:s.unit≤2
 ·rw [kP ha hu] at h
  by_cases hx:ag (a+bF s k)
  ·rw [if_pos hx] at h
   rw [← Option.some.inj h];exact hx
  ·rw [if_neg hx] at h;cases h
 ·obtain⟨y,m,d,hd⟩:=cW ha.1 ha.2
  rw [gg hd hu] at h
  obtain⟨d',hx⟩:=iJ hd.1.2.2.2.2.1 h
  exact hx.range
theorem uE {s:Spc} {k k':Int} (hn:1≤s.n) (hk:k<k'):bF s k<bF s k':=by
 have h:k*s.n<k'*s.n:=Int.mul_lt_mul_of_pos_right hk (by omega)
 unfold bF
 split
 ·split<;>omega
 ·exact h
theorem DU (s:Spc):bF s 0=0:=by unfold bF;simp
theorem NX {s:Spc} {a k k' x x':Int} (hn:1≤s.n) (h:ptO s a k=some x) (h':ptO s a k'=some x') (hk:k<k'):x<x':=by
 have ha:=mh h
 have hs:=uE hn hk
 by_cases hu:s.unit≤2
 ·rw [kP ha hu] at h h'
  by_cases hx:ag (a+bF s k)
  ·by_cases hx':ag (a+bF s k')
   ·rw [if_pos hx] at h
    rw [if_pos hx'] at h'
    have:=Option.some.inj h
    have:=Option.some.inj h'
    omega
   ·rw [if_neg hx'] at h';cases h'
  ·rw [if_neg hx] at h;cases h
 ·obtain⟨y,m,d,hd⟩:=cW ha.1 ha.2
  rw [gg hd hu] at h h'
  obtain⟨e,hx⟩:=iJ hd.1.2.2.2.2.1 h
  obtain⟨e',hx'⟩:=iJ hd.1.2.2.2.2.1 h'
  refine Aq hx hx' ?_
  rw [nZ,nZ]
  unfold dC
  omega
theorem LH {s:Spc} {a k x:Int} (hn:1≤s.n) (h:ptO s a k=some x):(0<k→a<x)∧(k<0→x<a):=by
 have ha:=mh h
 have hs:(0<k→0<bF s k)∧(k<0→bF s k<0):=by
  have:=DU s
  exact⟨fun e=>by have:=uE hn e;omega,fun e=>by have:=uE hn e;omega⟩
 by_cases hu:s.unit≤2
 ·rw [kP ha hu] at h
  by_cases hx:ag (a+bF s k)
  ·rw [if_pos hx] at h
   have:=Option.some.inj h
   exact⟨fun e=>by have:=hs.1 e;omega,fun e=>by have:=hs.2 e;omega⟩
  ·rw [if_neg hx] at h;cases h
 ·obtain⟨y,m,d,hd⟩:=cW ha.1 ha.2
  rw [gg hd hu] at h
  obtain⟨e,hx⟩:=iJ hd.1.2.2.2.2.1 h
  refine⟨fun e=>Aq hd hx ?_,fun e=>Aq hx hd ?_⟩
  ·have:=hs.1 e;rw [nZ];unfold dC;omega
  ·have:=hs.2 e;rw [nZ];unfold dC;omega
theorem Hj {s:Spc} {K j:Nat} (h:SpcOk s) (hK:DatR s K) (hj:j<K):∃ x,pkO s (j+1)=some x∧s.st<x∧x<s.en:=by
 obtain⟨x,e,hx⟩:=Hh hK hj
 refine⟨x,e,?_⟩
 have hp:=LH h.n1 e
 unfold uD sgnI at hp
 by_cases hs:s.stub≤2
 ·rw [if_pos hs] at hx
  rw [if_pos hs,if_pos hs] at hp
  exact⟨hx,hp.2 (by omega)⟩
 ·rw [if_neg hs] at hx
  rw [if_neg hs,if_neg hs] at hp
  exact⟨hp.1 (by omega),hx⟩
theorem NY {s:Spc} {j j':Nat} {x x':Int} (h:SpcOk s) (e:pkO s j=some x) (e':pkO s j'=some x') (hj:j<j'):if s.stub≤2 then x'<x else x<x':=by
 unfold pkO sgnI at e e'
 by_cases hs:s.stub≤2
 ·rw [if_pos hs] at e e' ⊢
  exact NX h.n1 e' e (by omega)
 ·rw [if_neg hs] at e e' ⊢
  exact NX h.n1 e e' (by omega)
theorem pm {s:Spc} {K C i:Nat} (h:SpcOk s) (hK:DatR s K) (hC:C≤K) (hi:i<C):pkO s (if s.stub≤2 then C - i else i+1)=some (jY s C i)∧s.st<jY s C i∧jY s C i<s.en:=by
 unfold jY
 by_cases hs:s.stub≤2
 ·rw [if_pos hs,if_pos hs]
  obtain⟨x,e,h1,h2⟩:=Hj (j:=C - i - 1) h hK (by omega)
  rw [show C - i - 1+1=C - i by omega] at e
  rw [e];exact⟨rfl,h1,h2⟩
 ·rw [if_neg hs,if_neg hs]
  obtain⟨x,e,h1,h2⟩:=Hj (j:=i) h hK (by omega)
  rw [e];exact⟨rfl,h1,h2⟩
theorem OK {s:Spc} {K C i:Nat} (h:SpcOk s) (hK:DatR s K) (hC:C≤K) (hi:i+1<C):jY s C i<jY s C (i+1):=by
 obtain⟨e,_,_⟩:=pm h hK hC (show i<C by omega)
 obtain⟨e',_,_⟩:=pm h hK hC hi
 by_cases hs:s.stub≤2
 ·rw [if_pos hs] at e e'
  have:=NY h e' e (by omega)
  rw [if_pos hs] at this
  exact this
 ·rw [if_neg hs] at e e'
  have:=NY h e e' (by omega)
  rw [if_neg hs] at this
  exact this
theorem sV (s:Spc) (C:Nat):(mf s C).getD 0 0=s.st:=rfl
theorem oa {s:Spc} {C i:Nat} (hi:i<C):(mf s C).getD (i+1) 0=jY s C i:=by
 unfold mf
 simp [List.getD,List.getElem?_append_left,hi]
theorem kQ (s:Spc) (C:Nat):(mf s C).getD (C+1) 0=s.en:=by
 unfold mf
 simp [List.getD]
theorem OL {s:Spc} {K C i:Nat} (h:SpcOk s) (hK:DatR s K) (hC:C≤K) (hi:i<C+1):(mf s C).getD i 0<(mf s C).getD (i+1) 0:=by
 cases i with
 | zero=>
  rw [sV]
  by_cases hC0:0<C
  ·rw [oa hC0];exact (pm h hK hC hC0).2.1
  ·obtain rfl:C=0:=by omega
   rw [kQ];exact h.lt
 | succ i=>
  have hi':i<C:=by omega
  rw [oa hi']
  by_cases e:i+1<C
  ·rw [oa e];exact OK h hK hC e
  ·obtain rfl:C=i+1:=by omega
   rw [kQ];exact (pm h hK hC hi').2.2
theorem LI {s:Spc} {K C i:Nat} (h:SpcOk s) (hK:DatR s K) (hC:C≤K) (hi:i<C+2):ag ((mf s C).getD i 0):=by
 have h0:=h.s0
 have h1:=h.e0
 cases i with
 | zero=>rw [sV];exact h0
 | succ i=>
  by_cases e:i<C
  ·rw [oa e]
   exact OJ (pm h hK hC e).1
  ·obtain rfl:i=C:=by omega
   rw [kQ];exact h1
end Go.Proofs.YtkooknagalgfpaaGreat
namespace Go.Proofs.YtkooknagalgfpaaGreat
open Go.RowKit

def po (kind ya ma da yb mb db:Int):Int:=360*(yb - ya)+30*(mb - ma)+(if kind=5∨min da 30=30 then min db 30 else db) - min da 30
def pu (y n:Int):Int:=133590*(y - 1900)+(n - nyI y)*(366 - lpI y)
theorem Hk {y n:Int} (h:1900≤y) (h':y≤2200) (h0:nyI y≤n) (h1:n≤nyI (y+1)):0≤pu y n∧pu y n≤50000000:=by
 unfold pu
 rw [kL h] at h1
 rcases lp_cases y with e | e<;>rw [e] at h1 ⊢<;>constructor<;>omega
end Go.Proofs.YtkooknagalgfpaaGreat
namespace Go.Proofs.YtkooknagalgfpaaGreat
open Go.RowKit

def QN (w:World) (W:Int) (v:Value) (wr:World):Prop:=Below (w.heap.size+1) (w.alloc (.cells #[.int .i64 W,v] 24)) wr
end Go.Proofs.YtkooknagalgfpaaGreat
namespace Go.Proofs.YtkooknagalgfpaaGreat
open Go.RowKit

end Go.Proofs.YtkooknagalgfpaaGreat
namespace Go.Proofs.YtkooknagalgfpaaGreat
open Go.RowKit

structure HK (w:World) (W:Int) (v:Value) (b5:Nat) (Y m d:Int) (wr:World):Prop where
 box:QN w W v wr
 d0:wr.cell? ⟨b5,0,none⟩=some (.int .i64 Y)
 d1:wr.cell? ⟨b5,1,none⟩=some (.int .i64 m)
 d2:wr.cell? ⟨b5,2,none⟩=some (.int .i64 d)
 lt:b5<wr.heap.size
structure HK2 (w:World) (W:Int) (v:Value) (b5:Nat) (Y m d:Int) (b8:Nat) (r:Rul) (wr:World):Prop where
 hk:HK w W v b5 Y m d wr
 rc:RCells wr b8 0 r
 lt8:b8<wr.heap.size
end Go.Proofs.YtkooknagalgfpaaGreat
namespace Go.Proofs.YtkooknagalgfpaaGreat
open Go.RowKit

theorem xg {a b:Bool} (h:a=b):Ending.returned (.bool a)=.returned (.bool b):=by rw [h]
theorem QO (mon day nth wd off fr to mv:Int):bW ⟨4,mon,day,nth,wd,off,fr,to,mv⟩=decide (mon=0∧nth=0∧wd=0∧off=0∧fr=0∧to=0∧mv=0∧0≤day∧day≤109572):=by
 unfold bW;dsimp only;rw [if_pos rfl]
def Ar (fr to mv:Int):Prop:=1900≤fr∧fr≤2199∧fr≤to∧to≤2199∧0≤mv∧mv≤2
theorem uF {kind mon day nth wd off fr to mv:Int} (h4:kind≠4) (h:¬ Ar fr to mv):bW ⟨kind,mon,day,nth,wd,off,fr,to,mv⟩=false:=by
 unfold bW;dsimp only;rw [if_neg h4,show decide (1900≤fr∧fr≤2199∧fr≤to∧to≤2199∧0≤mv∧mv≤2)=false from decide_eq_false h,Bool.false_and]
theorem QP {mon day nth wd off fr to mv:Int} (h:Ar fr to mv):bW ⟨1,mon,day,nth,wd,off,fr,to,mv⟩=decide (nth=0∧wd=0∧off=0∧1≤mon∧mon≤12∧1≤day∧day≤sR mon):=by
 unfold bW;dsimp only
 rw [if_neg (by decide),show decide (1900≤fr∧fr≤2199∧fr≤to∧to≤2199∧0≤mv∧mv≤2)=true from decide_eq_true h,Bool.true_and,if_pos rfl]
theorem QQ {mon day nth wd off fr to mv:Int} (h:Ar fr to mv):bW ⟨2,mon,day,nth,wd,off,fr,to,mv⟩=decide (day=0∧off=0∧1≤mon∧mon≤12∧0≤wd∧wd≤6∧1≤nth∧nth≤5):=by
 unfold bW;dsimp only
 rw [if_neg (by decide),show decide (1900≤fr∧fr≤2199∧fr≤to∧to≤2199∧0≤mv∧mv≤2)=true from decide_eq_true h,Bool.true_and,if_neg (by decide),if_pos rfl]
theorem QR {mon day nth wd off fr to mv:Int} (h:Ar fr to mv):bW ⟨3,mon,day,nth,wd,off,fr,to,mv⟩=decide (mon=0∧day=0∧nth=0∧wd=0∧-100≤off∧off≤100):=by
 unfold bW;dsimp only
 rw [if_neg (by decide),show decide (1900≤fr∧fr≤2199∧fr≤to∧to≤2199∧0≤mv∧mv≤2)=true from decide_eq_true h,Bool.true_and,if_neg (by decide),if_neg (by decide),if_pos rfl]
theorem OM {kind mon day nth wd off fr to mv:Int} (h1:kind≠1) (h2:kind≠2) (h3:kind≠3) (h4:kind≠4):bW ⟨kind,mon,day,nth,wd,off,fr,to,mv⟩=false:=by
 unfold bW;dsimp only
 rw [if_neg h4,if_neg h1,if_neg h2,if_neg h3,Bool.and_false]

end Go.Proofs.YtkooknagalgfpaaGreat
namespace Go.Proofs.YtkooknagalgfpaaGreat
open Go.RowKit

theorem below_drewN' {B:Nat} {w w2:World} {n:Nat} (hb:Below B w w2):Below B w (w2.drewN n):=⟨hb.os,hb.tape,hb.output,hb.size,hb.block⟩
theorem pw {w:World} (o:Obj) (p:Addr) (h:p.block<w.heap.size):(w.alloc o).cell? p=w.cell? p:=((Below.refl _ w).alloc (Nat.le_refl _) o).cell h
theorem xh {w:World} {v:Value} (cs:Array Value) (t:TypeId) (k:Nat) (h:cs[k]? =some v) {o:Obj}:((w.alloc o).alloc (.cells cs t)).cell? ⟨w.heap.size+1,k,none⟩=some v:=by
 rw [show w.heap.size+1=(w.alloc o).heap.size by simp]
 simp [h]
theorem ji (W:World) (cs:Array Value) (t:TypeId) (k:Nat):(W.alloc (.cells cs t)).cell? ⟨W.heap.size,k,none⟩=cs[k]? :=by simp
end Go.Proofs.YtkooknagalgfpaaGreat
namespace Go.Proofs.YtkooknagalgfpaaGreat
open Go.RowKit

end Go.Proofs.YtkooknagalgfpaaGreat
namespace Go.Proofs.YtkooknagalgfpaaGreat
open Go.RowKit

end Go.Proofs.YtkooknagalgfpaaGreat
namespace Go.Proofs.YtkooknagalgfpaaGreat
open Go.RowKit

end Go.Proofs.YtkooknagalgfpaaGreat
namespace Go.Proofs.YtkooknagalgfpaaGreat
open Go.RowKit

end Go.Proofs.YtkooknagalgfpaaGreat
namespace Go.Proofs.YtkooknagalgfpaaGreat
open Go.RowKit

end Go.Proofs.YtkooknagalgfpaaGreat
namespace Go.Proofs.YtkooknagalgfpaaGreat
open Go.RowKit

end Go.Proofs.YtkooknagalgfpaaGreat
namespace Go.Proofs.YtkooknagalgfpaaGreat
open Go.RowKit

end Go.Proofs.YtkooknagalgfpaaGreat
namespace Go.Proofs.YtkooknagalgfpaaGreat
open Go.RowKit

noncomputable def moD (n:Int):Int:=moI n - 12*yrI n
noncomputable def daD (n:Int):Int:=n - nyI (yrI n) - cm (yrI n) (moD n)+1
theorem ob {n y m d:Int} (h:IsD n y m d):yrI n=y∧moD n=m∧daD n=d:=by
 have e1:=sS h
 have e2:moD n=m:=by unfold moD;rw [Qc h,e1];omega
 refine⟨e1,e2,?_⟩
 unfold daD
 rw [e1,e2]
 have:=h.2
 unfold ay at this
 omega
noncomputable def iq (op:Int→Bool) (kind a b:Int):Int:=
 if kind=1∨kind=2 then b - a else if kind=3 then pu (yrI b) b - pu (yrI a) a else if kind=6 then (cntN op a (b - a).toNat:Nat) else po kind (yrI a) (moD a) (daD a) (yrI b) (moD b) (daD b)
def cZ (kind:Int):Int:=if kind=2 then 365 else if kind=3 then 133590 else if kind=6 then 252 else 360

end Go.Proofs.YtkooknagalgfpaaGreat
namespace Go.Proofs.YtkooknagalgfpaaGreat
open Go.RowKit

def As (a b:Int):Prop:=¬ (ag a∧ag b)
end Go.Proofs.YtkooknagalgfpaaGreat
namespace Go.Proofs.YtkooknagalgfpaaGreat
open Go.RowKit

end Go.Proofs.YtkooknagalgfpaaGreat
namespace Go.Proofs.YtkooknagalgfpaaGreat
open Go.RowKit

theorem kR (op:Int→Bool) {kind a b:Int} (ha:ag a) (hb:ag b) (hab:a≤b): -1000000000≤iq op kind a b∧iq op kind a b≤1000000000:=by
 obtain⟨ya,ma,da,hA⟩:=cW ha.1 ha.2
 obtain⟨yb,mb,db,hB⟩:=cW hb.1 hb.2
 obtain⟨e1,e2,e3⟩:=ob hA
 obtain⟨f1,f2,f3⟩:=ob hB
 unfold iq
 rw [e1,e2,e3,f1,f2,f3]
 have ra:=hA.year
 have rb:=hB.year
 obtain⟨⟨a1,a2,a3,a4,a5,a6⟩,_⟩:=hA
 obtain⟨⟨b1,b2,b3,b4,b5,b6⟩,_⟩:=hB
 have la:=gG ya ma
 have lb:=gG yb mb
 have c:=GW op a (b - a).toNat
 have xa:=Hk (y:=ya) (n:=a) a1 (by omega) ra.1 (by omega)
 have xb:=Hk (y:=yb) (n:=b) b1 (by omega) rb.1 (by omega)
 obtain⟨a7,a8⟩:=ha
 obtain⟨b7,b8⟩:=hb
 split
 ·omega
 ·split
  ·omega
  ·split
   ·omega
   ·unfold po
    split<;>omega
noncomputable def eO (op:Int→Bool) (kind a b:Int):Int:=if b<a then -iq op kind b a else iq op kind a b
theorem xj (op:Int→Bool) {kind a b:Int} (ha:ag a) (hb:ag b): -1000000000≤eO op kind a b∧eO op kind a b≤1000000000:=by
 unfold eO
 split
 ·have:=kR op (kind:=kind) hb ha (by omega);omega
 ·exact kR op ha hb (by omega)
end Go.Proofs.YtkooknagalgfpaaGreat
namespace Go.Proofs.YtkooknagalgfpaaGreat
open Go.RowKit

end Go.Proofs.YtkooknagalgfpaaGreat
namespace Go.Proofs.YtkooknagalgfpaaGreat
open Go.RowKit

end Go.Proofs.YtkooknagalgfpaaGreat
namespace Go.Proofs.YtkooknagalgfpaaGreat
open Go.RowKit

open Classical in
noncomputable def ca (r:Rul) (y:Int):Option Int:=if r.kind=4 then (if yrI r.day=y then some r.day else none) else nt r y
noncomputable def mkB (W:Int) (r:Rul) (y n:Int):Bool:=(ca r y).map (fun g=>mvI W g r.mv)==some n
noncomputable def mkT (W:Int) (r:Rul) (Y n:Int):Nat→Bool
 | 0=>false
 | t+1=>mkT W r Y n t||mkB W r (Y - 1+t) n
noncomputable def mkK (W:Int) (rs:List Rul) (Y n:Int):Nat→Bool
 | 0=>false
 | k+1=>mkK W rs Y n k||mkT W (rs.getD k fx) Y n 3

theorem Mg {W n:Int} (h0:0≤W) (h1:W≤126):mvI W n 0=n:=by
 obtain⟨u,d,hu⟩:=pc h0 h1 n
 rw [wX hu];unfold cB;rw [if_pos (Or.inl rfl)]
theorem Mh {W:Int} {r:Rul} {Y n:Int} (h0:0≤W) (h1:W≤126) (hf:bW r=true) (hy:yrI n=Y):mkT W r Y n 3=LB W r n Y:=by
 show (((false||mkB W r (Y - 1+((0:Nat):Int)) n)||mkB W r (Y - 1+((1:Nat):Int)) n)||mkB W r (Y - 1+((2:Nat):Int)) n)=_
 rw [show Y - 1+((0:Nat):Int)=Y - 1 by omega,show Y - 1+((1:Nat):Int)=Y by omega,show Y - 1+((2:Nat):Int)=Y+1 by omega,Bool.false_or]
 unfold LB
 by_cases k4:r.kind=4
 ·rw [if_pos k4]
  have hmv:r.mv=0:=by
   rcases fit_cases hf with⟨_,_,_,a⟩| ⟨_,⟨a,_⟩| ⟨a,_⟩| ⟨a,_⟩⟩
   ·exact a
   ·omega
   ·omega
   ·omega
  have key:∀ y,mkB W r y n=(decide (yrI r.day=y)&&(r.day==n)):=fun y=>by
   unfold mkB ca
   rw [if_pos k4]
   by_cases e:yrI r.day=y
   ·rw [if_pos e,Option.map_some,hmv,Mg h0 h1,decide_eq_true e,Bool.true_and];rfl
   ·rw [if_neg e,decide_eq_false e,Bool.false_and];rfl
  rw [key,key,key]
  by_cases e:r.day=n
  ·rw [e,hy,decide_eq_true (rfl:Y=Y)]
   simp
  ·rw [beq_eq_false_iff_ne.2 e]
   simp
 ·rw [if_neg k4]
  have key:∀ y,mkB W r y n=(GV W r y==some n):=fun y=>by
   unfold mkB ca GV
   rw [if_neg k4]
  rw [key,key,key]
theorem Mi {W:Int} {rs:List Rul} {Y n:Int} (h0:0≤W) (h1:W≤126) (hf:∀ r ∈ rs,bW r=true) (hy:yrI n=Y):mkK W rs Y n rs.length=uB W rs n Y:=by
 have key:∀ k,k≤rs.length→mkK W rs Y n k=(rs.take k).any fun r=>LB W r n Y:=fun k=>by
  induction k with
  | zero=>intro _;rfl
  | succ k ih=>
   intro hk
   have e:rs[k]? =some (rs.getD k fx):=by simp [List.getD,List.getElem?_eq_getElem (show k<rs.length by omega)]
   show (mkK W rs Y n k||mkT W (rs.getD k fx) Y n 3)=_
   rw [ih (by omega),Mh h0 h1 (hf _ (pe (by omega))) hy,List.take_add_one,e,List.any_append]
   simp
 rw [key _ (Nat.le_refl _),List.take_length]
 rfl
theorem Oc {n Y:Int} (y0:1900≤Y) (y1:Y≤2199) (h:nyI Y≤n) (h':n<nyI (Y+1)):yrI n=Y:=by
 have a:=dK (y:=1900) (z:=Y) (by omega) y0
 have b:=dK (y:=Y+1) (z:=2200) (by omega) (by omega)
 rw [oX] at a
 rw [uA] at b
 obtain⟨y,m,d,hd⟩:=cW (n:=n) (by omega) (by omega)
 rw [sS hd]
 have hy:=hd.year
 have h0:=hd.1.1
 rcases Int.lt_trichotomy y Y with e | e | e
 ·have:=dK (y:=y+1) (z:=Y) (by omega) (by omega);omega
 ·exact e
 ·have:=dK (y:=Y+1) (z:=y) (by omega) (by omega);omega
theorem Qf {n:Int} (hn:ag n):1900≤yrI n∧yrI n≤2199∧nyI (yrI n)≤n∧n<nyI (yrI n+1):=by
 obtain⟨y,m,d,hd⟩:=cW hn.1 hn.2
 rw [sS hd]
 exact⟨hd.1.1,hd.1.2.1,hd.year⟩
theorem Ep (Y:Int):ay Y 1 1=nyI Y:=by unfold ay;rw [eE];omega
theorem Ii {Y:Int} (h:1900≤Y):ay Y 12 31=nyI (Y+1) - 1:=by
 have e:=fY (y:=Y) (m:=12) (by omega) (by omega)
 rw [show (12+1:Int)=13 by decide,kM] at e
 have e2:bt Y 12=31:=by unfold bt;rw [if_neg (by decide),if_neg (by decide)]
 rw [kL h]
 unfold ay
 omega
theorem AK {Y:Int} (y0:1900≤Y) (y1:Y≤2199):okD Y 1 1:=⟨y0,y1,by decide,by decide,by decide,by have:=cV Y 1;omega⟩
theorem Ij {Y:Int} (y0:1900≤Y) (y1:Y≤2199):okD Y 12 31:=⟨y0,y1,by decide,by decide,by decide,by unfold bt;rw [if_neg (by decide),if_neg (by decide)];decide⟩
theorem Ik {W:Int} {r:Rul} {y n:Int} (h:ca r y=none):mkB W r y n=false:=by unfold mkB;rw [h];rfl
theorem xJ {W:Int} {r:Rul} {y n g:Int} (h:ca r y=some g):mkB W r y n=decide (mvI W g r.mv=n):=by
 unfold mkB;rw [h,Option.map_some]
 by_cases e:mvI W g r.mv=n
 ·rw [e,decide_eq_true rfl];simp
 ·rw [decide_eq_false e];simpa using e
end Go.Proofs.YtkooknagalgfpaaGreat
