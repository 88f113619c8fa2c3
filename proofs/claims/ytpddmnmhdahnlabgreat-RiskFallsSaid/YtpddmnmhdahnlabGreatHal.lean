/-  -/
import Derived.Test.YtpddmnmhdahnlabGreatDLen
import Derived.Deep.RegionWith
import Derived.Test.YtpddmnmhdahnlabGreatHad
import Derived.Laws.BitsAllLaws
import Derived.Laws.Bits64b
namespace Go.Proofs.YtpddmnmhdahnlabGreat
open Go.RowKit

def ymB (y m:Int):Prop:=1900≤y∧y≤2199∧1≤m∧m≤12

theorem dX (y:Int) (w:World) :
  Calls Tryz.prog 216 #[.int .i64 y] w fun e w'=>e=.returned (.bool (decide (1900≤y∧y≤2199)))∧w'=w:=by
 by_cases h1:1900≤y<;>by_cases h2:y≤2199
 all_goals
  first | rw [decide_eq_true (⟨h1,h2⟩:1900≤y∧y≤2199)] | rw [decide_eq_false (fun h:1900≤y∧y≤2199=>by omega)]
  go_enter Tryz.func216,Tryz.ntmps216
  go_wp2
  go_ret
  exact⟨rfl,rfl⟩

theorem dZ (y m:Int) (w:World) (h:ymB y m) :
  Calls Tryz.prog 203 #[.int .i64 y,.int .i64 m] w fun e w'=>e=.returned (.tuple #[.int .i64 (bX y m),.int .i64 0])∧w'=w:=by
 obtain⟨h1,h2,h3,h4⟩:=h
 have hy:=dX y
 rw [decide_eq_true (⟨h1,h2⟩:1900≤y∧y≤2199)] at hy
 have HL:=hideS (jr y m w h3 h4)
 have HY:=hideS hy
 clear hy
 generalize bX y m=L at *
 go_enter Tryz.func203,Tryz.ntmps203
 go_wp2_with (first | (go_at_call 216;refine (HY.out _).mono ?_;rintro e w' ⟨rfl,rfl⟩) | (go_at_call 204;refine HL.out.mono ?_;rintro e w' ⟨rfl,rfl⟩))
 go_ret2
 exact⟨rfl,rfl⟩
theorem ig (y m:Int) (w:World) (h:¬ ymB y m) :
  Calls Tryz.prog 203 #[.int .i64 y,.int .i64 m] w fun e w'=>e=.returned (.tuple #[.int .i64 0,.int .i64 50])∧w'=w:=by
 unfold ymB at h
 by_cases hy0:1900≤y∧y≤2199
 ·have hy:=dX y
  rw [decide_eq_true hy0] at hy
  have HY:=hideS hy
  clear hy
  rcases (show m<1∨(1≤m∧12<m) by omega) with hm | ⟨hm,hm'⟩
  all_goals
   clear h hy0
   go_enter Tryz.func203,Tryz.ntmps203
   go_wp2_with (go_at_call 216;refine (HY.out _).mono ?_;rintro e w' ⟨rfl,rfl⟩)
   go_ret2
   exact⟨rfl,rfl⟩
 ·have hy:=dX y
  rw [decide_eq_false hy0] at hy
  have HY:=hideS hy
  clear hy h hy0
  go_enter Tryz.func203,Tryz.ntmps203
  go_wp2_with (go_at_call 216;refine (HY.out _).mono ?_;rintro e w' ⟨rfl,rfl⟩)
  go_ret2
  exact⟨rfl,rfl⟩

theorem qY (y:Int) (w:World) (h:0≤y) (h':y≤3000) :
  Calls Tryz.prog 205 #[.int .i64 y] w fun e w'=>e=.returned (.int .i64 (lS y))∧w'=w:=by
 unfold lS
 go_enter Tryz.func205,Tryz.ntmps205
 go_wp2
 go_ret
 exact⟨rfl,rfl⟩

theorem ii (y:Int) (w:World) (h:1900≤y) (h':y≤2200) :
  Calls Tryz.prog 191 #[.int .i64 y] w fun e w'=>e=.returned (.int .i64 (nyI y))∧w'=w:=by
 have H1:=hideS (qY (y - 1) w (by omega) (by omega))
 have H2:=hideS (qY 1899 w (by omega) (by omega))
 have e2:lS 1899=460:=by decide
 rw [e2] at H2
 unfold nyI
 have hl:0≤lS (y - 1)∧lS (y - 1)≤3000:=by unfold lS;omega
 obtain⟨l1,l2⟩:=hl
 generalize lS (y - 1)=L at *
 clear e2
 go_enter Tryz.func191,Tryz.ntmps191
 go_wp2_with (first | (go_at_call_of 205 (Value.int IntKind.i64 1899);refine H2.out.mono ?_;rintro e w' ⟨rfl,rfl⟩) | (go_at_call 205;refine H1.out.mono ?_;rintro e w' ⟨rfl,rfl⟩))
 go_ret
 exact⟨rfl,rfl⟩

set_option maxHeartbeats 400000 in
theorem kY (y m d:Int) (w:World) (h:okD y m d) :
  Calls Tryz.prog 186 #[.int .i64 y,.int .i64 m,.int .i64 d] w fun e w'=>e=.returned (.tuple #[.int .i64 (aJ y m d),.int .i64 0])∧w'=w:=by
 obtain⟨h1,h2,h3,h4,h5,h6⟩:=h
 have HL:=hideS (dZ y m w ⟨h1,h2,h3,h4⟩)
 have HN:=hideS (ii y w h1 (by omega))
 have hl:=ie y m
 have HLen:=hideS (fun (k:Int) (wx:World) (a:1≤k) (b:k≤12)=>jr y k wx a b)
 have HD:Hid (aJ y m d=nyI y+d - 1+bU y m):=by show _=_;unfold aJ;omega
 have n1:0≤nyI y:=by have:=lG h1;omega
 have n2:nyI y≤110000:=by have:=lH h1;omega
 obtain⟨R,hR⟩:∃ R,aJ y m d=R:=⟨_,rfl⟩
 rw [hR] at HD ⊢
 clear hR
 obtain⟨L,hL⟩:∃ L,bX y m=L:=⟨_,rfl⟩
 rw [hL] at HL h6 hl
 clear hL
 obtain⟨N,hN⟩:∃ N,nyI y=N:=⟨_,rfl⟩
 rw [hN] at HN n1 n2 HD
 clear hN
 go_enter Tryz.func186,Tryz.ntmps186
 go_wp2_with (first | (go_at_call 203;refine HL.out.mono ?_;rintro e w' ⟨rfl,rfl⟩) | (go_at_call 191;refine HN.out.mono ?_;rintro e w' ⟨rfl,rfl⟩))
 clear HL HN
 go_loop [35,10] (fun i n=>∃ (k:Nat) (C:Int),(k:Int)+1≤m∧0≤C∧C≤200000∧i=.int .i64 k∧n=.int .i64 C∧Hid (C=N+d - 1+bU y (k+1))) (fun i _=>(m - intOf i).toNat)
 case atStart=>exact⟨0,N+d - 1,by omega,by omega,by omega,rfl,rfl,by show _=_;rw [show (((0:Nat):Int)+1)=1 by rfl,dG];omega⟩
 case round=>
  obtain⟨k,C,hk,hC0,hC1,rfl,rfl,HC⟩:=hrel
  by_cases hlt:(k:Int)+1<m
  ·have H:=hideS (fun wx=>HLen.out (k+1) wx (by omega) (by omega))
   have HN:Hid (C+bX y (k+1)=N+d - 1+bU y (((k+1:Nat):Int)+1)):=by
    show _=_
    rw [HC.out,show (((k+1:Nat):Int)+1)=(k:Int)+1+1 by omega,fD (m:=(k:Int)+1) (by omega) (by omega)];omega
   have HB:Hid (bU y (((k+1:Nat):Int)+1)≤366):=FI (by omega) (by omega)
   have l1:=ic y (k+1)
   have l2:=ie y (k+1)
   generalize bX y (k+1)=l at *
   have hlt':(k:Int)<m - 1:=by omega
   go_wp2_with (go_at_call 204;refine (H.out _).mono ?_;rintro e w' ⟨rfl,rfl⟩)
   go_round
   case rel=>exact⟨k+1,C+l,by omega,by omega,by have:=HN.out;have:=HB.out;omega,by go_num,rfl,HN⟩
   case measure=>simp [intOf];omega
  ·have hm:m=(k:Int)+1:=by omega
   have HR:Hid (C=R):=by show _=_;rw [HC.out,HD.out,hm]
   have hge:¬ (k:Int)<m - 1:=by omega
   clear HC HD hm
   go_wp2_with fail
   go_ret2
   obtain rfl:=HR.out
   exact⟨rfl,rfl⟩

theorem IY (y m d:Int) (w:World) (h:¬ okD y m d) :
  Calls Tryz.prog 186 #[.int .i64 y,.int .i64 m,.int .i64 d] w fun e w'=>e=.returned (.tuple #[.int .i64 0,.int .i64 50])∧w'=w:=by
 by_cases hy:ymB y m
 ·have HL:=hideS (dZ y m w hy)
  obtain⟨h1,h2,h3,h4⟩:=hy
  unfold okD at h
  have l1:=ic y m
  generalize bX y m=L at *
  rcases (show d<1∨(1≤d∧L<d) by omega) with hd | ⟨hd,hd'⟩
  all_goals
   clear h
   go_enter Tryz.func186,Tryz.ntmps186
   go_wp2_with (go_at_call 203;refine HL.out.mono ?_;rintro e w' ⟨rfl,rfl⟩)
   go_ret2
   exact⟨rfl,rfl⟩
 ·have HL:=hideS (ig y m w hy)
  clear hy h
  go_enter Tryz.func186,Tryz.ntmps186
  go_wp2_with (go_at_call 203;refine HL.out.mono ?_;rintro e w' ⟨rfl,rfl⟩)
  go_ret2
  exact⟨rfl,rfl⟩
end Go.Proofs.YtpddmnmhdahnlabGreat
namespace Go.Proofs.YtpddmnmhdahnlabGreat
open Go.RowKit

end Go.Proofs.YtpddmnmhdahnlabGreat
namespace Go.Proofs.YtpddmnmhdahnlabGreat
open Go.RowKit

theorem kZ {y m:Int} (h:ymB y m) (d:Int) (h1:1≤d) (h2:d≤28):okD y m d:=by
 obtain⟨a,b,c,e⟩:=h
 have:=ic y m
 exact⟨a,b,c,e,h1,by omega⟩
def ij (y:Int):Int:=aJ y (eaT y / 31) (eaT y % 31+1)

structure EaW (y a b c d e f g h i k l m t:Int):Prop where
 fa:y % 19=a
 fb:y / 100=b
 fc:y % 100=c
 fd:b / 4=d
 fe:b % 4=e
 ff:(b+8) / 25=f
 fg:(b - f+1) / 3=g
 fh:(19*a+b - d - g+15) % 30=h
 fi:c / 4=i
 fk:c % 4=k
 fl:(32+2*e+2*i - h - k) % 7=l
 fm:(a+11*h+22*l) / 451=m
 ft:h+l - 7*m+114=t
theorem KV (y:Int):∃ a b c d e f g h i k l m,EaW y a b c d e f g h i k l m (eaT y):=
 ⟨_,_,_,_,_,_,_,_,_,_,_,_,⟨rfl,rfl,rfl,rfl,rfl,rfl,rfl,rfl,rfl,rfl,rfl,rfl,rfl⟩⟩

set_option maxHeartbeats 800000 in
theorem vC (y:Int) (w:World) (h0:1900≤y) (h1:y≤2199) :
  Calls Tryz.prog 258 #[.int .i64 y] w fun e w'=>e=.returned (.tuple #[.int .i64 (eaT y / 31),.int .i64 (eaT y % 31+1)])∧w'=w:=by
 obtain⟨a,b,c,d,e,f,g,h,i,k,l,m,H⟩:=KV y
 have t0:=(qX h0 h1).pos
 have t1:=(qX h0 h1).small
 generalize eaT y=t at *
 obtain⟨ea,eb,ec,ed,ee,ef,eg,eh,ei,ek,el,em,et⟩:=H
 have a0:0≤a∧a≤18:=by omega
 have b0:19≤b∧b≤21:=by omega
 have c0:0≤c∧c≤99:=by omega
 have d0:0≤d∧d≤5:=by omega
 have e0:0≤e∧e≤3:=by omega
 have f0:0≤f∧f≤2:=by omega
 have g0:0≤g∧g≤8:=by omega
 have hx:0≤h∧h≤29:=by omega
 have i0:0≤i∧i≤24:=by omega
 have k0:0≤k∧k≤3:=by omega
 have l0:0≤l∧l≤6:=by omega
 have m0:0≤m∧m≤2:=by omega
 obtain⟨a0,a1⟩:=a0
 obtain⟨b0,b1⟩:=b0
 obtain⟨c0,c1⟩:=c0
 obtain⟨d0,d1⟩:=d0
 obtain⟨e0,e1⟩:=e0
 obtain⟨f0,f1⟩:=f0
 obtain⟨g0,g1⟩:=g0
 obtain⟨hx,hx1⟩:=hx
 obtain⟨i0,i1⟩:=i0
 obtain⟨k0,k1⟩:=k0
 obtain⟨l0,l1⟩:=l0
 obtain⟨m0,m1⟩:=m0
 go_enter Tryz.func258,Tryz.ntmps258
 go_wp2_with fail
 go_ret2
 exact⟨rfl,rfl⟩

theorem Cg (y:Int) (w:World) (h0:1900≤y) (h1:y≤2199) :
  Calls Tryz.prog 257 #[.int .i64 y] w fun e w'=>e=.returned (.tuple #[.int .i64 (ij y),.int .i64 0])∧w'=w:=by
 have HY:Hid (∀ w,Calls Tryz.prog 216 #[.int .i64 y] w fun e w'=>e=.returned (.bool true)∧w'=w):=fun w=>by
  have hy:=dX y w
  rw [decide_eq_true (⟨h0,h1⟩:1900≤y∧y≤2199)] at hy;exact hy
 have HE:=hideS (vC y w h0 h1)
 have HO:=hideS (kY y (eaT y / 31) (eaT y % 31+1) w (qX h0 h1).ok)
 unfold ij
 generalize aJ y (eaT y / 31) (eaT y % 31+1)=R at *
 generalize eaT y / 31=M at *
 generalize eaT y % 31+1=D at *
 go_enter Tryz.func257,Tryz.ntmps257
 go_wp2_with (first | (go_at_call 216;refine (HY.out _).mono ?_;rintro e w' ⟨rfl,rfl⟩) | (go_at_call 258;refine HE.out.mono ?_;rintro e w' ⟨rfl,rfl⟩) | (go_at_call 186;refine HO.out.mono ?_;rintro e w' ⟨rfl,rfl⟩))
 go_ret2
 exact⟨rfl,rfl⟩
theorem yp (y:Int) (w:World) (h:¬ (1900≤y∧y≤2199)) :
  Calls Tryz.prog 257 #[.int .i64 y] w fun e w'=>e=.returned (.tuple #[.int .i64 0,.int .i64 50])∧w'=w:=by
 have HY:Hid (∀ w,Calls Tryz.prog 216 #[.int .i64 y] w fun e w'=>e=.returned (.bool false)∧w'=w):=fun w=>by
  have hy:=dX y w
  rw [decide_eq_false h] at hy;exact hy
 clear h
 go_enter Tryz.func257,Tryz.ntmps257
 go_wp2_with (go_at_call 216;refine (HY.out _).mono ?_;rintro e w' ⟨rfl,rfl⟩)
 go_ret2
 exact⟨rfl,rfl⟩

end Go.Proofs.YtpddmnmhdahnlabGreat
namespace Go.Proofs.YtpddmnmhdahnlabGreat
open Go.RowKit

theorem yq {W n:Int} {u d u' d':Nat} (h:Ups W n u d) (h':Ups W n u' d'):u=u'∧d=d':=by
 constructor
 ·rcases Nat.lt_trichotomy u u' with e | e | e
  ·have:=h'.uo u e;rw [h.uf] at this;exact Bool.noConfusion this
  ·exact e
  ·have:=h.uo u' e;rw [h'.uf] at this;exact Bool.noConfusion this
 ·rcases Nat.lt_trichotomy d d' with e | e | e
  ·have:=h'.dn d e;rw [h.df] at this;exact Bool.noConfusion this
  ·exact e
  ·have:=h.dn d' e;rw [h'.df] at this;exact Bool.noConfusion this
open Classical in
noncomputable def mvI (W n mv:Int):Int:=if h:∃ p:Nat×Nat,Ups W n p.1 p.2 then cg W n mv h.choose.1 h.choose.2 else n
theorem vD {W n mv:Int} {u d:Nat} (h:Ups W n u d):mvI W n mv=cg W n mv u d:=by
 have hx:∃ p:Nat×Nat,Ups W n p.1 p.2:=⟨(u,d),h⟩
 unfold mvI
 rw [dif_pos hx]
 have e:=yq hx.choose_spec h
 rw [e.1,e.2]
def qZ (m:Int):Int:=if m=2 then 29 else if m=4∨m=6∨m=9∨m=11 then 30 else 31
def bQ (r:Rul):Bool:=
 if r.kind=4 then decide (r.mon=0∧r.nth=0∧r.wd=0∧r.off=0∧r.fr=0∧r.to=0∧r.mv=0∧0≤r.day∧r.day≤109572)
 else decide (1900≤r.fr∧r.fr≤2199∧r.fr≤r.to∧r.to≤2199∧0≤r.mv∧r.mv≤2)&&
  (if r.kind=1 then decide (r.nth=0∧r.wd=0∧r.off=0∧1≤r.mon∧r.mon≤12∧1≤r.day∧r.day≤qZ r.mon)
  else if r.kind=2 then decide (r.day=0∧r.off=0∧1≤r.mon∧r.mon≤12∧0≤r.wd∧r.wd≤6∧1≤r.nth∧r.nth≤5)
  else if r.kind=3 then decide (r.mon=0∧r.day=0∧r.nth=0∧r.wd=0∧-100≤r.off∧r.off≤100) else false)
theorem fit_cases {r:Rul} (h:bQ r=true) :
  (r.kind=4∧0≤r.day∧r.day≤109572∧r.mv=0)∨
  ((1900≤r.fr∧r.fr≤r.to∧r.to≤2199∧0≤r.mv∧r.mv≤2)∧
   ((r.kind=1∧1≤r.mon∧r.mon≤12∧1≤r.day∧r.day≤qZ r.mon)∨(r.kind=2∧1≤r.mon∧r.mon≤12∧0≤r.wd∧r.wd≤6∧1≤r.nth∧r.nth≤5)∨(r.kind=3∧-100≤r.off∧r.off≤100))):=by
 unfold bQ at h
 by_cases k4:r.kind=4
 ·rw [if_pos k4,decide_eq_true_eq] at h
  exact Or.inl ⟨k4,h.2.2.2.2.2.2.2.1,h.2.2.2.2.2.2.2.2,h.2.2.2.2.2.2.1⟩
 ·rw [if_neg k4,Bool.and_eq_true,decide_eq_true_eq] at h
  obtain⟨⟨a,b,c,d,e,f⟩,h⟩:=h
  refine Or.inr ⟨⟨a,c,d,e,f⟩,?_⟩
  by_cases k1:r.kind=1
  ·rw [if_pos k1,decide_eq_true_eq] at h
   exact Or.inl ⟨k1,h.2.2.2⟩
  ·rw [if_neg k1] at h
   by_cases k2:r.kind=2
   ·rw [if_pos k2,decide_eq_true_eq] at h
    exact Or.inr (Or.inl ⟨k2,h.2.2⟩)
   ·rw [if_neg k2] at h
    by_cases k3:r.kind=3
    ·rw [if_pos k3,decide_eq_true_eq] at h
     exact Or.inr (Or.inr ⟨k3,h.2.2.2.2⟩)
    ·rw [if_neg k3] at h;exact Bool.noConfusion h
open Classical in
noncomputable def lI (r:Rul) (y:Int):Option Int:=
 if y<r.fr∨r.to<y then none
 else if r.kind=1 then (if okD y r.mon r.day then some (aJ y r.mon r.day) else none)
 else if r.kind=2 then some (Cf y r.mon r.wd r.nth)
 else if r.kind=3 then some (ij y+r.off) else some 0
noncomputable def FN (W:Int) (r:Rul) (y:Int):Option Int:=(lI r y).map (fun n=>mvI W n r.mv)
noncomputable def IZ (W:Int) (r:Rul) (n Y:Int):Bool:=
 if r.kind=4 then r.day==n else FN W r (Y - 1)==some n||FN W r Y==some n||FN W r (Y+1)==some n
noncomputable def sM (W:Int) (rs:List Rul) (n Y:Int):Bool:=rs.any fun r=>IZ W r n Y
theorem Ja {y m wd k:Int} (h:ymB y m) (_d0:0≤wd) (_d1:wd≤6) (k1:1≤k) (k5:k≤5):0≤Cf y m wd k∧Cf y m wd k≤110000:=by
 obtain⟨f0,f1⟩:=(kX (kZ h 1 (by omega) (by omega))).range
 have l0:=ic y m
 show 0≤(if k=5∧aJ y m 1+bX y m≤aJ y m 1+(wd - aJ y m 1) % 7+7*(k - 1) then aJ y m 1+(wd - aJ y m 1) % 7+7*(k - 1) - 7 else aJ y m 1+(wd - aJ y m 1) % 7+7*(k - 1))∧(if k=5∧aJ y m 1+bX y m≤aJ y m 1+(wd - aJ y m 1) % 7+7*(k - 1) then aJ y m 1+(wd - aJ y m 1) % 7+7*(k - 1) - 7 else aJ y m 1+(wd - aJ y m 1) % 7+7*(k - 1))≤110000
 split<;>omega
end Go.Proofs.YtpddmnmhdahnlabGreat
namespace Go.Proofs.YtpddmnmhdahnlabGreat
open Go.RowKit

def ik:Rul:=⟨0,0,0,0,0,0,0,0,0⟩
structure RCells (w:World) (b o:Nat) (r:Rul):Prop where
 c0:w.cell? ⟨b,o,none⟩=some (.int .i64 r.kind)
 c1:w.cell? ⟨b,o+1,none⟩=some (.int .i64 r.mon)
 c2:w.cell? ⟨b,o+2,none⟩=some (.int .i64 r.day)
 c3:w.cell? ⟨b,o+3,none⟩=some (.int .i64 r.nth)
 c4:w.cell? ⟨b,o+4,none⟩=some (.int .i64 r.wd)
 c5:w.cell? ⟨b,o+5,none⟩=some (.int .i64 r.off)
 c6:w.cell? ⟨b,o+6,none⟩=some (.int .i64 r.fr)
 c7:w.cell? ⟨b,o+7,none⟩=some (.int .i64 r.to)
 c8:w.cell? ⟨b,o+8,none⟩=some (.int .i64 r.mv)
theorem RCells.below {w w':World} {B b o:Nat} {r:Rul} (h:RCells w b o r) (hb:Below B w w') (hB:b<B):RCells w' b o r:=
 ⟨(hb.cell (p:=⟨b,o,none⟩) hB).trans h.c0,(hb.cell (p:=⟨b,o+1,none⟩) hB).trans h.c1,(hb.cell (p:=⟨b,o+2,none⟩) hB).trans h.c2,(hb.cell (p:=⟨b,o+3,none⟩) hB).trans h.c3,(hb.cell (p:=⟨b,o+4,none⟩) hB).trans h.c4,(hb.cell (p:=⟨b,o+5,none⟩) hB).trans h.c5,(hb.cell (p:=⟨b,o+6,none⟩) hB).trans h.c6,(hb.cell (p:=⟨b,o+7,none⟩) hB).trans h.c7,(hb.cell (p:=⟨b,o+8,none⟩) hB).trans h.c8⟩
structure RSrc (w:World) (p:Option Addr) (b off:Nat) (rs:List Rul):Prop where
 at_:0<rs.length→p=some ⟨b,off,none⟩
 lt:0<rs.length→b<w.heap.size
 cell:∀ i,i<rs.length→RCells w b (off+i*9) (rs.getD i ik)
theorem RSrc.below {w w':World} {p:Option Addr} {b off:Nat} {rs:List Rul} (h:RSrc w p b off rs) (hb:Below w.heap.size w w'):RSrc w' p b off rs:=
 ⟨h.at_,fun hx=>Nat.lt_of_lt_of_le (h.lt hx) hb.size,fun j hj=>(h.cell j hj).below hb (h.lt (by omega))⟩
end Go.Proofs.YtpddmnmhdahnlabGreat
namespace Go.Proofs.YtpddmnmhdahnlabGreat
open Go.RowKit

open Classical in
noncomputable def yrI (n:Int):Int:=if h:∃ y m d,IsD n y m d then h.choose else 0
theorem rd {n y m d:Int} (h:IsD n y m d):yrI n=y:=by
 have hx:∃ y m d,IsD n y m d:=⟨y,m,d,h⟩
 unfold yrI
 rw [dif_pos hx]
 obtain⟨m',d',h'⟩:=hx.choose_spec
 exact (h'.unique h).1
noncomputable def opB (W:Int) (rs:List Rul) (n:Int):Bool:=!dt W n&&!sM W rs n (yrI n)
def ak (n:Int):Prop:=0≤n∧n≤109572
instance (n:Int):Decidable (ak n):=by unfold ak;infer_instance
structure OkC (W:Int) (rs:List Rul):Prop where
 len:rs.length≤64
 w0:0≤W
 w1:W≤126
 fit:∀ r ∈ rs,bQ r=true
inductive ChkR (W:Int) (rs:List Rul):Int→Int→Prop where
 | long:64<rs.length→ChkR W rs 2 0
 | week:rs.length≤64→¬ (0≤W∧W≤126)→ChkR W rs 60 (-1)
 | rule (k:Nat):rs.length≤64→(0≤W∧W≤126)→k<rs.length→bQ (rs.getD k ik)=false→(∀ j<k,bQ (rs.getD j ik)=true)→ChkR W rs 60 k
 | ok:OkC W rs→ChkR W rs 0 0
theorem oE {rs:List Rul} {k:Nat} (h:k<rs.length):rs.getD k ik ∈ rs:=by
 rw [List.getD_eq_getElem?_getD,List.getElem?_eq_getElem h];exact List.getElem_mem h
theorem KW {W:Int} {rs:List Rul} {B:Int} (h:ChkR W rs 0 B):OkC W rs∧B=0:=by
 cases h with
 | ok h=>exact⟨h,rfl⟩
open Classical in
noncomputable def moI (n:Int):Int:=if h:∃ k,∃ y m d,IsD n y m d∧k=12*y+m then h.choose else 0
theorem LF {n y m d:Int} (h:IsD n y m d):moI n=12*y+m:=by
 have hx:∃ k,∃ y m d,IsD n y m d∧k=12*y+m:=⟨_,y,m,d,h,rfl⟩
 unfold moI
 rw [dif_pos hx]
 obtain⟨y',m',d',h',e⟩:=hx.choose_spec
 obtain⟨e1,e2,_⟩:=h'.unique h
 rw [e,e1,e2]

def cntN (op:Int→Bool) (a:Int):Nat→Nat
 | 0=>0
 | k+1=>cntN op a k+(if op (a+k) then 1 else 0)
theorem FO (op:Int→Bool) (a:Int) (k:Nat):cntN op a k≤k:=by
 induction k with
 | zero=>exact Nat.le_refl _
 | succ k ih=>show cntN op a k+(if op (a+k) then 1 else 0)≤k+1;split<;>omega

end Go.Proofs.YtpddmnmhdahnlabGreat
namespace Go.Proofs.YtpddmnmhdahnlabGreat
open Go.RowKit

def oF (kind ya ma da yb mb db:Int):Int:=360*(yb - ya)+30*(mb - ma)+(if kind=5∨min da 30=30 then min db 30 else db) - min da 30
def oG (y n:Int):Int:=133590*(y - 1900)+(n - nyI y)*(366 - lpI y)
theorem FQ {y n:Int} (h:1900≤y) (h':y≤2200) (h0:nyI y≤n) (h1:n≤nyI (y+1)):0≤oG y n∧oG y n≤50000000:=by
 unfold oG
 rw [kj h] at h1
 rcases lp_cases y with e | e<;>rw [e] at h1 ⊢<;>constructor<;>omega
end Go.Proofs.YtpddmnmhdahnlabGreat
namespace Go.Proofs.YtpddmnmhdahnlabGreat
open Go.RowKit

end Go.Proofs.YtpddmnmhdahnlabGreat
namespace Go.Proofs.YtpddmnmhdahnlabGreat
open Go.RowKit

def CBox (w:World) (W:Int) (v:Value) (wr:World):Prop:=Below (w.heap.size+1) (w.alloc (.cells #[.int .i64 W,v] 103)) wr
theorem CBox.step {w wr w':World} {W:Int} {v:Value} (h:CBox w W v wr) (hb:Below wr.heap.size wr w'):CBox w W v w':=
 h.trans (hb.mono (by have:=h.size;simp at this;omega))
theorem CBox.below {w wr:World} {W:Int} {v:Value} (h:CBox w W v wr):Below w.heap.size w wr:=
 ((Below.refl w.heap.size w).alloc (Nat.le_refl _) _).trans (h.mono (by omega))
theorem CBox.first {w w':World} {W:Int} {v:Value} (hb:Below (w.alloc (.cells #[.int .i64 W,v] 103)).heap.size (w.alloc (.cells #[.int .i64 W,v] 103)) w'):CBox w W v w':=
 hb.mono (by simp)
end Go.Proofs.YtpddmnmhdahnlabGreat
namespace Go.Proofs.YtpddmnmhdahnlabGreat
open Go.RowKit

end Go.Proofs.YtpddmnmhdahnlabGreat
namespace Go.Proofs.YtpddmnmhdahnlabGreat
open Go.RowKit

structure HK (w:World) (W:Int) (v:Value) (b5:Nat) (Y m d:Int) (wr:World):Prop where
 box:CBox w W v wr
 d0:wr.cell? ⟨b5,0,none⟩=some (.int .i64 Y)
 d1:wr.cell? ⟨b5,1,none⟩=some (.int .i64 m)
 d2:wr.cell? ⟨b5,2,none⟩=some (.int .i64 d)
 lt:b5<wr.heap.size
theorem HK.step {w wr w':World} {W:Int} {v:Value} {b5:Nat} {Y m d:Int} (h:HK w W v b5 Y m d wr) (hb:Below wr.heap.size wr w'):HK w W v b5 Y m d w':=
 ⟨h.box.step hb,(hb.cell (p:=⟨b5,0,none⟩) h.lt).trans h.d0,(hb.cell (p:=⟨b5,1,none⟩) h.lt).trans h.d1,(hb.cell (p:=⟨b5,2,none⟩) h.lt).trans h.d2,Nat.lt_of_lt_of_le h.lt hb.size⟩
structure HK2 (w:World) (W:Int) (v:Value) (b5:Nat) (Y m d:Int) (b8:Nat) (r:Rul) (wr:World):Prop where
 hk:HK w W v b5 Y m d wr
 rc:RCells wr b8 0 r
 lt8:b8<wr.heap.size
theorem HK2.step {w wr w':World} {W:Int} {v:Value} {b5:Nat} {Y m d:Int} {b8:Nat} {r:Rul} (h:HK2 w W v b5 Y m d b8 r wr) (hb:Below wr.heap.size wr w'):HK2 w W v b5 Y m d b8 r w':=
 ⟨h.hk.step hb,h.rc.below hb h.lt8,Nat.lt_of_lt_of_le h.lt8 hb.size⟩
theorem HK2.first {w wr:World} {W:Int} {v:Value} {b5:Nat} {Y m d:Int} {r:Rul} (h:HK w W v b5 Y m d wr) :
  HK2 w W v b5 Y m d wr.heap.size r (wr.alloc (.cells #[.int .i64 r.kind,.int .i64 r.mon,.int .i64 r.day,.int .i64 r.nth,.int .i64 r.wd,.int .i64 r.off,.int .i64 r.fr,.int .i64 r.to,.int .i64 r.mv] 238)):=
 ⟨h.step ((Below.refl _ wr).alloc (Nat.le_refl _) _),⟨by simp,by simp,by simp,by simp,by simp,by simp,by simp,by simp,by simp⟩,by simp⟩

end Go.Proofs.YtpddmnmhdahnlabGreat
namespace Go.Proofs.YtpddmnmhdahnlabGreat
open Go.RowKit

theorem vE {a b:Bool} (h:a=b):Ending.returned (.bool a)=.returned (.bool b):=by rw [h]
theorem LU (mon day nth wd off fr to mv:Int):bQ ⟨4,mon,day,nth,wd,off,fr,to,mv⟩=decide (mon=0∧nth=0∧wd=0∧off=0∧fr=0∧to=0∧mv=0∧0≤day∧day≤109572):=by
 unfold bQ;dsimp only;rw [if_pos rfl]
def yr (fr to mv:Int):Prop:=1900≤fr∧fr≤2199∧fr≤to∧to≤2199∧0≤mv∧mv≤2
theorem sN {kind mon day nth wd off fr to mv:Int} (h4:kind≠4) (h:¬ yr fr to mv):bQ ⟨kind,mon,day,nth,wd,off,fr,to,mv⟩=false:=by
 unfold bQ;dsimp only;rw [if_neg h4,show decide (1900≤fr∧fr≤2199∧fr≤to∧to≤2199∧0≤mv∧mv≤2)=false from decide_eq_false h,Bool.false_and]
theorem LV {mon day nth wd off fr to mv:Int} (h:yr fr to mv):bQ ⟨1,mon,day,nth,wd,off,fr,to,mv⟩=decide (nth=0∧wd=0∧off=0∧1≤mon∧mon≤12∧1≤day∧day≤qZ mon):=by
 unfold bQ;dsimp only
 rw [if_neg (by decide),show decide (1900≤fr∧fr≤2199∧fr≤to∧to≤2199∧0≤mv∧mv≤2)=true from decide_eq_true h,Bool.true_and,if_pos rfl]
theorem LW {mon day nth wd off fr to mv:Int} (h:yr fr to mv):bQ ⟨2,mon,day,nth,wd,off,fr,to,mv⟩=decide (day=0∧off=0∧1≤mon∧mon≤12∧0≤wd∧wd≤6∧1≤nth∧nth≤5):=by
 unfold bQ;dsimp only
 rw [if_neg (by decide),show decide (1900≤fr∧fr≤2199∧fr≤to∧to≤2199∧0≤mv∧mv≤2)=true from decide_eq_true h,Bool.true_and,if_neg (by decide),if_pos rfl]
theorem LX {mon day nth wd off fr to mv:Int} (h:yr fr to mv):bQ ⟨3,mon,day,nth,wd,off,fr,to,mv⟩=decide (mon=0∧day=0∧nth=0∧wd=0∧-100≤off∧off≤100):=by
 unfold bQ;dsimp only
 rw [if_neg (by decide),show decide (1900≤fr∧fr≤2199∧fr≤to∧to≤2199∧0≤mv∧mv≤2)=true from decide_eq_true h,Bool.true_and,if_neg (by decide),if_neg (by decide),if_pos rfl]
theorem KX {kind mon day nth wd off fr to mv:Int} (h1:kind≠1) (h2:kind≠2) (h3:kind≠3) (h4:kind≠4):bQ ⟨kind,mon,day,nth,wd,off,fr,to,mv⟩=false:=by
 unfold bQ;dsimp only
 rw [if_neg h4,if_neg h1,if_neg h2,if_neg h3,Bool.and_false]

end Go.Proofs.YtpddmnmhdahnlabGreat
namespace Go.Proofs.YtpddmnmhdahnlabGreat
open Go.RowKit

theorem below_drewN' {B:Nat} {w w2:World} {n:Nat} (hb:Below B w w2):Below B w (w2.drewN n):=⟨hb.os,hb.tape,hb.output,hb.size,hb.block⟩
theorem vF {w:World} {v:Value} (cs:Array Value) (t:TypeId) (k:Nat) (h:cs[k]? =some v) {o:Obj}:((w.alloc o).alloc (.cells cs t)).cell? ⟨w.heap.size+1,k,none⟩=some v:=by
 rw [show w.heap.size+1=(w.alloc o).heap.size by simp]
 simp [h]
end Go.Proofs.YtpddmnmhdahnlabGreat
namespace Go.Proofs.YtpddmnmhdahnlabGreat
open Go.RowKit

end Go.Proofs.YtpddmnmhdahnlabGreat
namespace Go.Proofs.YtpddmnmhdahnlabGreat
open Go.RowKit

end Go.Proofs.YtpddmnmhdahnlabGreat
namespace Go.Proofs.YtpddmnmhdahnlabGreat
open Go.RowKit

end Go.Proofs.YtpddmnmhdahnlabGreat
namespace Go.Proofs.YtpddmnmhdahnlabGreat
open Go.RowKit

end Go.Proofs.YtpddmnmhdahnlabGreat
namespace Go.Proofs.YtpddmnmhdahnlabGreat
open Go.RowKit

end Go.Proofs.YtpddmnmhdahnlabGreat
namespace Go.Proofs.YtpddmnmhdahnlabGreat
open Go.RowKit

end Go.Proofs.YtpddmnmhdahnlabGreat
namespace Go.Proofs.YtpddmnmhdahnlabGreat
open Go.RowKit

end Go.Proofs.YtpddmnmhdahnlabGreat
namespace Go.Proofs.YtpddmnmhdahnlabGreat
open Go.RowKit

noncomputable def moD (n:Int):Int:=moI n - 12*yrI n
noncomputable def daD (n:Int):Int:=n - nyI (yrI n) - bU (yrI n) (moD n)+1
theorem ml {n y m d:Int} (h:IsD n y m d):yrI n=y∧moD n=m∧daD n=d:=by
 have e1:=rd h
 have e2:moD n=m:=by unfold moD;rw [LF h,e1];omega
 refine⟨e1,e2,?_⟩
 unfold daD
 rw [e1,e2]
 have:=h.2
 unfold aJ at this
 omega
noncomputable def gI (op:Int→Bool) (kind a b:Int):Int:=
 if kind=1∨kind=2 then b - a else if kind=3 then oG (yrI b) b - oG (yrI a) a else if kind=6 then (cntN op a (b - a).toNat:Nat) else oF kind (yrI a) (moD a) (daD a) (yrI b) (moD b) (daD b)
def dw (kind:Int):Int:=if kind=2 then 365 else if kind=3 then 133590 else if kind=6 then 252 else 360

structure PBoxN (w:World) (W:Int) (v:Value) (wr:World):Prop where
 a0:wr.cell? ⟨w.heap.size,0,none⟩=some (.int .i64 W)
 a1:wr.cell? ⟨w.heap.size,1,none⟩=some v
 d0:wr.cell? ⟨w.heap.size+1,0,none⟩=some (.int .i64 0)
 d1:wr.cell? ⟨w.heap.size+1,1,none⟩=some (.int .i64 0)
 f0:wr.frozen? ⟨w.heap.size+1,0,none⟩=false
 f1:wr.frozen? ⟨w.heap.size+1,1,none⟩=false
 bl:Below w.heap.size w wr
 sz:w.heap.size+2≤wr.heap.size
theorem PBoxN.step {w wr w':World} {W:Int} {v:Value} (h:PBoxN w W v wr) (hb:Below wr.heap.size wr w'):PBoxN w W v w':=by
 have hz:=h.sz
 have c:∀ k<w.heap.size+2,∀ j,w'.cell? ⟨k,j,none⟩=wr.cell? ⟨k,j,none⟩:=fun k hk j=>hb.cell (p:=⟨k,j,none⟩) (by show k<_;omega)
 have f:∀ k<w.heap.size+2,∀ j,w'.frozen? ⟨k,j,none⟩=wr.frozen? ⟨k,j,none⟩:=fun k hk j=>hb.frozen (p:=⟨k,j,none⟩) (by show k<_;omega)
 exact⟨(c _ (by omega) _).trans h.a0,(c _ (by omega) _).trans h.a1,(c _ (by omega) _).trans h.d0,(c _ (by omega) _).trans h.d1,(f _ (by omega) _).trans h.f0,(f _ (by omega) _).trans h.f1,h.bl.trans (hb.mono h.bl.size),Nat.le_trans h.sz hb.size⟩
end Go.Proofs.YtpddmnmhdahnlabGreat
namespace Go.Proofs.YtpddmnmhdahnlabGreat
open Go.RowKit

def yt (a b:Int):Prop:=¬ (ak a∧ak b)
end Go.Proofs.YtpddmnmhdahnlabGreat
namespace Go.Proofs.YtpddmnmhdahnlabGreat
open Go.RowKit

end Go.Proofs.YtpddmnmhdahnlabGreat
namespace Go.Proofs.YtpddmnmhdahnlabGreat
open Go.RowKit

theorem kn (op:Int→Bool) {kind a b:Int} (ha:ak a) (hb:ak b) (hab:a≤b): -1000000000≤gI op kind a b∧gI op kind a b≤1000000000:=by
 obtain⟨ya,ma,da,hA⟩:=gA ha.1 ha.2
 obtain⟨yb,mb,db,hB⟩:=gA hb.1 hb.2
 obtain⟨e1,e2,e3⟩:=ml hA
 obtain⟨f1,f2,f3⟩:=ml hB
 unfold gI
 rw [e1,e2,e3,f1,f2,f3]
 have ra:=hA.year
 have rb:=hB.year
 obtain⟨⟨a1,a2,a3,a4,a5,a6⟩,_⟩:=hA
 obtain⟨⟨b1,b2,b3,b4,b5,b6⟩,_⟩:=hB
 have la:=ie ya ma
 have lb:=ie yb mb
 have c:=FO op a (b - a).toNat
 have xa:=FQ (y:=ya) (n:=a) a1 (by omega) ra.1 (by omega)
 have xb:=FQ (y:=yb) (n:=b) b1 (by omega) rb.1 (by omega)
 obtain⟨a7,a8⟩:=ha
 obtain⟨b7,b8⟩:=hb
 split
 ·omega
 ·split
  ·omega
  ·split
   ·omega
   ·unfold oF
    split<;>omega
noncomputable def il (op:Int→Bool) (kind a b:Int):Int:=if b<a then -gI op kind b a else gI op kind a b
theorem vG (op:Int→Bool) {kind a b:Int} (ha:ak a) (hb:ak b): -1000000000≤il op kind a b∧il op kind a b≤1000000000:=by
 unfold il
 split
 ·have:=kn op (kind:=kind) hb ha (by omega);omega
 ·exact kn op ha hb (by omega)
end Go.Proofs.YtpddmnmhdahnlabGreat
namespace Go.Proofs.YtpddmnmhdahnlabGreat
open Go.RowKit

end Go.Proofs.YtpddmnmhdahnlabGreat
namespace Go.Proofs.YtpddmnmhdahnlabGreat
open Go.RowKit

theorem re (n:Int) (w:World) :
  Calls Tryz.prog 188 #[.int .i64 n] w fun e w'=>e=.returned (.bool (decide (0≤n∧n≤109572)))∧w'=w:=by
 by_cases h1:0≤n<;>by_cases h2:n≤109572
 all_goals
  first | rw [decide_eq_true (⟨h1,h2⟩:0≤n∧n≤109572)] | rw [decide_eq_false (fun h:0≤n∧n≤109572=>by omega)]
  go_enter Tryz.func188,Tryz.ntmps188
  go_wp2
  go_ret
  exact⟨rfl,rfl⟩
theorem Ck (n:Int) (h:0≤n∧n≤109572) (w:World) :
  Calls Tryz.prog 188 #[.int .i64 n] w fun e w'=>e=.returned (.bool true)∧w'=w:=by
 have e:=re n w
 rw [decide_eq_true h] at e;exact e
theorem FS (n:Int) (h:¬ (0≤n∧n≤109572)) (w:World) :
  Calls Tryz.prog 188 #[.int .i64 n] w fun e w'=>e=.returned (.bool false)∧w'=w:=by
 have e:=re n w
 rw [decide_eq_false h] at e;exact e

set_option maxHeartbeats 400000 in
theorem yu (n y:Int) (w:World) (h1:1900≤y) (h2:y≤2199) (hy:nyI y≤n) (hy':n<nyI (y+1)) :
  Calls Tryz.prog 189 #[.int .i64 n] w fun e w'=>e=.returned (.int .i64 y)∧w'=w:=by
 have n0:0≤n:=by have:=lG h1;omega
 have n1:n≤120000:=by have:=lH (y:=y+1) (by omega);omega
 have hs:1900+n / 366≤y:=by have:=lH (y:=y+1) (by omega);omega
 have HN:=hideS (fun (z:Int) (wx:World) (a:1900≤z) (b:z≤2200)=>ii z wx a b)
 have HY:=hideS hy
 have HY':=hideS hy'
 clear hy hy'
 go_enter Tryz.func189,Tryz.ntmps189
 go_wp2_with fail
 go_loop [3] (fun i=>∃ (j:Int),1900≤j∧j≤y∧i=.int .i64 j) (fun i=>(y - intOf i).toNat)
 case atStart=>exact⟨1900+n / 366,by omega,hs,rfl⟩
 case round=>
  obtain⟨j,hj1,hj2,rfl⟩:=hrel
  have H:=hideS (fun wx=>HN.out (j+1) wx (by omega) (by omega))
  by_cases hlt:j<y
  ·have hle:nyI (j+1)≤n:=by
    have:=dA (y:=j+1) (z:=y) (by omega) (by omega)
    have:=HY.out
    omega
   generalize nyI (j+1)=N at *
   go_wp2_with (go_at_call 191;refine (H.out _).mono ?_;rintro e w' ⟨rfl,rfl⟩)
   go_round
   case rel=>exact⟨j+1,by omega,by omega,rfl⟩
   case measure=>simp [intOf];omega
  ·obtain rfl:j=y:=by omega
   have hle:¬ nyI (j+1)≤n:=by have:=HY'.out;omega
   clear HY'
   generalize nyI (j+1)=N at *
   go_wp2_with (go_at_call 191;refine (H.out _).mono ?_;rintro e w' ⟨rfl,rfl⟩)
   go_ret
   exact⟨rfl,rfl⟩

set_option maxHeartbeats 800000 in
theorem lT (y m r:Int) (w:World) (h1:1≤m) (h2:m≤12) (hm:bU y m≤r) (hm':r<bU y (m+1)) :
  Calls Tryz.prog 190 #[.int .i64 y,.int .i64 r] w fun e w'=>e=.returned (.tuple #[.int .i64 m,.int .i64 (r - bU y m+1)])∧w'=w:=by
 have r0:0≤r:=by have:=yo (y:=y) h1 (by omega);omega
 have r1:r≤366:=by have:=FI (y:=y) (m:=m+1) (by omega) (by omega);omega
 have HLen:=hideS (fun (k:Int) (wx:World) (a:1≤k) (b:k≤12)=>jr y k wx a b)
 have HM:=hideS hm
 have HM':=hideS hm'
 clear hm hm'
 obtain⟨D,hD⟩:∃ D,r - bU y m+1=D:=⟨_,rfl⟩
 rw [hD]
 have HD:=hideS hD
 clear hD
 go_enter Tryz.func190,Tryz.ntmps190
 go_wp2_with fail
 go_loop [7,1,4] (fun i b _=>∃ (k:Int) (C:Int),0≤k∧k+1≤m∧0≤C∧C≤366∧i=.int .i64 k∧b=.int .i64 C∧Hid (C=r - bU y (k+1))) (fun i _ _=>(m - intOf i).toNat)
 case atStart=>exact⟨0,r,by omega,by omega,by omega,by omega,rfl,rfl,by show _=_;rw [show ((0:Int)+1)=1 by rfl,dG];omega⟩
 case round=>
  obtain⟨k,C,hk0,hk,hC0,hC1,rfl,rfl,HC⟩:=hrel
  have H:=hideS (fun wx=>HLen.out (k+1) wx (by omega) (by omega))
  have l1:=ic y (k+1)
  have HS:Hid (bU y (k+1+1)=bU y (k+1)+bX y (k+1)):=fD (m:=k+1) (by omega) (by omega)
  by_cases hlt:k+1<m
  ·have hle:¬ C<bX y (k+1):=by
    have:=fE (y:=y) (m:=k+1+1) (k:=m) (by omega) (by omega) (by omega)
    have:=HM.out
    have:=HS.out
    have:=HC.out
    omega
   have HC':Hid (C - bX y (k+1)=r - bU y (k+1+1)):=by
    show _=_
    rw [HS.out,HC.out];omega
   generalize bX y (k+1)=l at *
   go_wp2_with (go_at_call 204;refine (H.out _).mono ?_;rintro e w' ⟨rfl,rfl⟩)
   go_round
   case rel=>exact⟨k+1,C - l,by omega,by omega,by omega,by omega,rfl,rfl,HC'⟩
   case measure=>simp [intOf];omega
  ·have hle:C<bX y (k+1):=by
    have:=HM'.out
    rw [show m+1=k+1+1 by omega,HS.out] at this
    have:=HC.out
    omega
   have hm:m=k+1:=by omega
   have HE:Hid (C+1=D):=by
    show _=_
    rw [← HD.out,HC.out,hm]
   have HMk:=hideS hm
   clear hm HD HC HM HM'
   generalize bX y (k+1)=l at *
   go_wp2_with (go_at_call 204;refine (H.out _).mono ?_;rintro e w' ⟨rfl,rfl⟩)
   go_ret2
   obtain rfl:=HE.out
   obtain rfl:=HMk.out
   exact⟨rfl,rfl⟩

theorem ko {fn:Func} {t u v x:Tmp} (h:fn.results=#[.tmp t,.tmp u,.tmp v,.tmp x]) (tmps:Array Value) (P:Program) (w:World) :
  (results fn tmps).run P w=.ok (.tuple #[tmps.getD t undef,tmps.getD u undef,tmps.getD v undef,tmps.getD x undef]) w:=by
 simp [results,h]

set_option maxHeartbeats 400000 in
theorem fF (n y m d:Int) (w:World) (h:IsD n y m d) :
  Calls Tryz.prog 170 #[.int .i64 n] w fun e w'=>e=.returned (.tuple #[.int .i64 y,.int .i64 m,.int .i64 d,.int .i64 0])∧w'=w:=by
 obtain⟨n0,n1⟩:=h.range
 obtain⟨a,b⟩:=h.year
 obtain⟨a',b'⟩:=h.month
 have HY:=hideS (Ck n ⟨n0,n1⟩)
 have hd:n - nyI y - bU y m+1=d:=by have:=h.2;unfold aJ at this;omega
 obtain⟨h1,h2,h3,h4,_,_⟩:=h.1
 clear h
 have H1:=hideS (fun wx=>yu n y wx h1 h2 a b)
 have H2:=hideS (fun wx=>ii y wx h1 (by omega))
 have h5:=fun wx=>lT y m (n - nyI y) wx h3 h4 a' b'
 rw [hd] at h5
 have H3:=hideS h5
 have c1:=yo (y:=y) h3 (by omega)
 have n2:=lG h1
 clear h5 hd b b' a'
 generalize nyI y=N at *
 go_enter Tryz.func170,Tryz.ntmps170
 go_wp2_with (first | (go_at_call 188;refine (HY.out _).mono ?_;rintro e w' ⟨rfl,rfl⟩) | (go_at_call 189;refine (H1.out _).mono ?_;rintro e w' ⟨rfl,rfl⟩) | (go_at_call 191;refine (H2.out _).mono ?_;rintro e w' ⟨rfl,rfl⟩) | (go_at_call 190;refine (H3.out _).mono ?_;rintro e w' ⟨rfl,rfl⟩))
 (try simp only [Exit.inBlock,Exit.then])
 refine bodyPost_ret (ko rfl _ _ _) rfl ?_
 exact⟨rfl,rfl⟩
theorem rf (n:Int) (w:World) (h:¬ (0≤n∧n≤109572)) :
  Calls Tryz.prog 170 #[.int .i64 n] w fun e w'=>e=.returned (.tuple #[.int .i64 0,.int .i64 0,.int .i64 0,.int .i64 51])∧w'=w:=by
 have HY:=hideS (FS n h)
 clear h
 go_enter Tryz.func170,Tryz.ntmps170
 go_wp2_with (go_at_call 188;refine (HY.out _).mono ?_;rintro e w' ⟨rfl,rfl⟩)
 (try simp only [Exit.inBlock,Exit.then])
 refine bodyPost_ret (ko rfl _ _ _) rfl ?_
 exact⟨rfl,rfl⟩
end Go.Proofs.YtpddmnmhdahnlabGreat
namespace Go.Proofs.YtpddmnmhdahnlabGreat
open Go.RowKit

end Go.Proofs.YtpddmnmhdahnlabGreat
namespace Go.Proofs.YtpddmnmhdahnlabGreat
open Go.RowKit

open Classical in
noncomputable def bN (r:Rul) (y:Int):Option Int:=if r.kind=4 then (if yrI r.day=y then some r.day else none) else lI r y
noncomputable def mkB (W:Int) (r:Rul) (y n:Int):Bool:=(bN r y).map (fun g=>mvI W g r.mv)==some n
noncomputable def mkT (W:Int) (r:Rul) (Y n:Int):Nat→Bool
 | 0=>false
 | t+1=>mkT W r Y n t||mkB W r (Y - 1+t) n
noncomputable def mkK (W:Int) (rs:List Rul) (Y n:Int):Nat→Bool
 | 0=>false
 | k+1=>mkK W rs Y n k||mkT W (rs.getD k ik) Y n 3

theorem Jb {W n:Int} (h0:0≤W) (h1:W≤126):mvI W n 0=n:=by
 obtain⟨u,d,hu⟩:=oD h0 h1 n
 rw [vD hu];unfold cg;rw [if_pos (Or.inl rfl)]
theorem Jc {W:Int} {r:Rul} {Y n:Int} (h0:0≤W) (h1:W≤126) (hf:bQ r=true) (hy:yrI n=Y):mkT W r Y n 3=IZ W r n Y:=by
 show (((false||mkB W r (Y - 1+((0:Nat):Int)) n)||mkB W r (Y - 1+((1:Nat):Int)) n)||mkB W r (Y - 1+((2:Nat):Int)) n)=_
 rw [show Y - 1+((0:Nat):Int)=Y - 1 by omega,show Y - 1+((1:Nat):Int)=Y by omega,show Y - 1+((2:Nat):Int)=Y+1 by omega,Bool.false_or]
 unfold IZ
 by_cases k4:r.kind=4
 ·rw [if_pos k4]
  have hmv:r.mv=0:=by
   rcases fit_cases hf with⟨_,_,_,a⟩| ⟨_,⟨a,_⟩| ⟨a,_⟩| ⟨a,_⟩⟩
   ·exact a
   ·omega
   ·omega
   ·omega
  have key:∀ y,mkB W r y n=(decide (yrI r.day=y)&&(r.day==n)):=fun y=>by
   unfold mkB bN
   rw [if_pos k4]
   by_cases e:yrI r.day=y
   ·rw [if_pos e,Option.map_some,hmv,Jb h0 h1,decide_eq_true e,Bool.true_and];rfl
   ·rw [if_neg e,decide_eq_false e,Bool.false_and];rfl
  rw [key,key,key]
  by_cases e:r.day=n
  ·rw [e,hy,decide_eq_true (rfl:Y=Y)]
   simp
  ·rw [beq_eq_false_iff_ne.2 e]
   simp
 ·rw [if_neg k4]
  have key:∀ y,mkB W r y n=(FN W r y==some n):=fun y=>by
   unfold mkB bN FN
   rw [if_neg k4]
  rw [key,key,key]
theorem Jd {W:Int} {rs:List Rul} {Y n:Int} (h0:0≤W) (h1:W≤126) (hf:∀ r ∈ rs,bQ r=true) (hy:yrI n=Y):mkK W rs Y n rs.length=sM W rs n Y:=by
 have key:∀ k,k≤rs.length→mkK W rs Y n k=(rs.take k).any fun r=>IZ W r n Y:=fun k=>by
  induction k with
  | zero=>intro _;rfl
  | succ k ih=>
   intro hk
   have e:rs[k]? =some (rs.getD k ik):=by simp [List.getD,List.getElem?_eq_getElem (show k<rs.length by omega)]
   show (mkK W rs Y n k||mkT W (rs.getD k ik) Y n 3)=_
   rw [ih (by omega),Jc h0 h1 (hf _ (oE (by omega))) hy,List.take_add_one,e,List.any_append]
   simp
 rw [key _ (Nat.le_refl _),List.take_length]
 rfl
theorem JP {n Y:Int} (y0:1900≤Y) (y1:Y≤2199) (h:nyI Y≤n) (h':n<nyI (Y+1)):yrI n=Y:=by
 have a:=dA (y:=1900) (z:=Y) (by omega) y0
 have b:=dA (y:=Y+1) (z:=2200) (by omega) (by omega)
 rw [oB] at a
 rw [sL] at b
 obtain⟨y,m,d,hd⟩:=gA (n:=n) (by omega) (by omega)
 rw [rd hd]
 have hy:=hd.year
 have h0:=hd.1.1
 rcases Int.lt_trichotomy y Y with e | e | e
 ·have:=dA (y:=y+1) (z:=Y) (by omega) (by omega);omega
 ·exact e
 ·have:=dA (y:=Y+1) (z:=y) (by omega) (by omega);omega
theorem LG {n:Int} (hn:ak n):1900≤yrI n∧yrI n≤2199∧nyI (yrI n)≤n∧n<nyI (yrI n+1):=by
 obtain⟨y,m,d,hd⟩:=gA hn.1 hn.2
 rw [rd hd]
 exact⟨hd.1.1,hd.1.2.1,hd.year⟩
theorem Cl (Y:Int):aJ Y 1 1=nyI Y:=by unfold aJ;rw [dG];omega
theorem FU {Y:Int} (h:1900≤Y):aJ Y 12 31=nyI (Y+1) - 1:=by
 have e:=fD (y:=Y) (m:=12) (by omega) (by omega)
 rw [show (12+1:Int)=13 by decide,km] at e
 have e2:bX Y 12=31:=by unfold bX;rw [if_neg (by decide),if_neg (by decide)]
 rw [kj h]
 unfold aJ
 omega
theorem yw {Y:Int} (y0:1900≤Y) (y1:Y≤2199):okD Y 1 1:=⟨y0,y1,by decide,by decide,by decide,by have:=ic Y 1;omega⟩
theorem FW {Y:Int} (y0:1900≤Y) (y1:Y≤2199):okD Y 12 31:=⟨y0,y1,by decide,by decide,by decide,by unfold bX;rw [if_neg (by decide),if_neg (by decide)];decide⟩
theorem FX {W:Int} {r:Rul} {y n:Int} (h:bN r y=none):mkB W r y n=false:=by unfold mkB;rw [h];rfl
theorem vM {W:Int} {r:Rul} {y n g:Int} (h:bN r y=some g):mkB W r y n=decide (mvI W g r.mv=n):=by
 unfold mkB;rw [h,Option.map_some]
 by_cases e:mvI W g r.mv=n
 ·rw [e,decide_eq_true rfl];simp
 ·rw [decide_eq_false e];simpa using e
end Go.Proofs.YtpddmnmhdahnlabGreat
namespace Go.Proofs.YtpddmnmhdahnlabGreat
open Go.RowKit

theorem ay (n lo hi:Int) (w:World) :
  Calls Tryz.prog 207 #[.int .i64 n,.int .i64 lo,.int .i64 hi] w fun e w'=>e=.returned (.bool (decide (lo≤n∧n≤hi)))∧w'=w:=by
 by_cases h1:lo≤n<;>by_cases h2:n≤hi
 all_goals
  first | rw [decide_eq_true (⟨h1,h2⟩:lo≤n∧n≤hi)] | rw [decide_eq_false (fun h:lo≤n∧n≤hi=>by omega)]
  go_enter Tryz.func207,Tryz.ntmps207
  go_wp2
  go_ret
  exact⟨rfl,rfl⟩

theorem oH (n:Int) (w:World) :
  Calls Tryz.prog 193 #[.int .i64 n] w fun e w'=>e=.returned (.bool (decide (ak n)))∧w'=w:=by
 have HI:=hideS (fun wx=>ay n 0 109572 wx)
 rw [show decide (ak n)=decide (0≤n∧n≤109572) from decide_eq_decide.2 Iff.rfl]
 generalize decide (0≤n∧n≤109572)=R at *
 go_enter Tryz.func193,Tryz.ntmps193
 go_wp2_with (go_at_call 207;refine (HI.out _).mono ?_;rintro e w1 ⟨rfl,rfl⟩)
 go_ret
 exact⟨rfl,rfl⟩

theorem FY (n:Int):bits .and .i64 n 1=n % 2:=by
 have h1:(BitVec.ofInt 64 1).toNat=2^1 - 1:=by decide
 have key:(BitVec.ofInt 64 n&&& BitVec.ofInt 64 1).toNat=(n % ((2^64:Nat):Int)).toNat % 2^1:=by
  rw [BitVec.toNat_and,BitVec.toNat_ofInt,h1,Nat.and_two_pow_sub_one_eq_mod]
 show IntKind.i64.wrap ((BitVec.ofInt 64 n&&& BitVec.ofInt 64 1).toNat:Nat)=n % 2
 rw [key,IntKind.wrap_i64]
 omega

set_option maxHeartbeats 400000 in
theorem iY (W n:Int) (w:World) (n0: -7≤n) (n1:n≤1000000) :
  Calls Tryz.prog 208 #[.int .i64 W,.int .i64 n] w fun e w'=>e=.returned (.bool (dt W n))∧w'=w:=by
 obtain⟨k,hk⟩:∃ k:Nat,n % 7=k:=⟨(n % 7).toNat,by omega⟩
 have hak:(n+7) % 7=(k:Int):=by omega
 have hk6:k≤6:=by omega
 have hand:=FY (W / 2^k)
 unfold dt
 rw [hk]
 have HE:Hid ((W / ((2^(((k:Nat):Int)).toNat:Nat):Int) % 2==1)=(W / 2^k % 2==1)):=by
  show _=_
  rw [Int.toNat_natCast,Int.natCast_pow];rfl
 clear hk
 rw [HE.out]
 clear HE
 go_enter Tryz.func208,Tryz.ntmps208
 go_wp2_with fail
 go_ret
 exact⟨rfl,rfl⟩

theorem FZ {W n mv:Int} {u d:Nat} (hu:Ups W n u d) (h0:u=0):cg W n mv u d=n:=by
 unfold cg
 rw [if_pos (Or.inr (by have:=hu.uf;rw [h0] at this;simpa using this))]
theorem KY {W n mv:Int} {u d:Nat} (hu:Ups W n u d) (hm:mv≠0) (hd:mv=2→u≤d):cg W n mv u d=n+u:=by
 by_cases h0:u=0
 ·rw [FZ hu h0,h0];omega
 ·unfold cg
  have ho:dt W n=true:=by have:=hu.uo 0 (by omega);simpa using this
  rw [if_neg (fun a=>by
   rcases a with a | a
   ·exact hm a
   ·rw [ho] at a;exact Bool.noConfusion a),if_neg (fun a=>by have:=hd a.1;omega)]
theorem Ga {W n mv:Int} {u d:Nat} (hu:Ups W n u d) (hm:mv=2) (hd:d<u):cg W n mv u d=n - d:=by
 unfold cg
 have ho:dt W n=true:=by have:=hu.uo 0 (by omega);simpa using this
 rw [if_neg (fun a=>by
   rcases a with a | a
   ·omega
   ·rw [ho] at a;exact Bool.noConfusion a),if_pos ⟨hm,by omega⟩]

set_option maxHeartbeats 1600000 in
theorem iK (W n mv:Int) (u d:Nat) (w:World) (n0: -1≤n) (n1:n≤500000) (hu:Ups W n u d) :
  Calls Tryz.prog 224 #[.int .i64 n,.int .i64 mv,.int .i64 W] w fun e w'=>e=.returned (.int .i64 (cg W n mv u d))∧w'=w:=by
 have HO:Hid (∀ x wx,-7≤x→x≤1000000→Calls Tryz.prog 208 #[.int .i64 W,.int .i64 x] wx fun e w'=>e=.returned (.bool (dt W x))∧w'=wx):=fun x wx a b=>iY W x wx a b
 have HU:=hideS hu
 have u6:=hu.ub
 have d6:=hu.db
 obtain⟨R,hR⟩:∃ R,cg W n mv u d=R:=⟨_,rfl⟩
 rw [hR]
 have HR:=hideS hR
 clear hR hu
 by_cases hz:mv=0
 ·have HE:Hid (n=R):=by
   show _=_
   rw [← HR.out];unfold cg;rw [if_pos (Or.inl hz)]
  subst hz
  go_enter Tryz.func224,Tryz.ntmps224
  go_wp2_with fail
  go_ret
  obtain rfl:=HE.out
  exact⟨rfl,rfl⟩
 ·have hz':(mv==0)=false:=beq_eq_false_iff_ne.2 hz
  have HZ:=hideS hz
  clear hz
  go_enter Tryz.func224,Tryz.ntmps224
  go_wp2_with fail
  go_loop [11] (fun i=>∃ (k:Nat),k≤u∧i=.int .i64 k∧Hid (mv=2→k≤d)) (fun i=>u+1 - (intOf i).toNat)
  case atStart=>exact⟨0,by omega,rfl,fun _=>by omega⟩
  case round=>
   obtain⟨k,hk,rfl,HK⟩:=hrel
   have hk7:(k:Int)<7:=by omega
   have H1:=hideS (fun wx=>HO.out (n+k) wx (by omega) (by omega))
   by_cases hlt:k<u
   ·have e1:dt W (n+k)=true:=HU.out.uo k hlt
    rw [e1] at H1
    clear e1
    by_cases h2:mv=2
    ·have H2:=hideS (fun wx=>HO.out (n - k) wx (by omega) (by omega))
     have hkd:=HK.out h2
     by_cases hld:k<d
     ·have e2:dt W (n - k)=true:=HU.out.dn k hld
      rw [e2] at H2
      clear e2
      subst h2
      go_wp2_with (first | (go_at_call_of 208 (Value.int IntKind.i64 (n+k));refine (H1.out _).mono ?_;rintro e w' ⟨rfl,rfl⟩) | (go_at_call_of 208 (Value.int IntKind.i64 (n - k));refine (H2.out _).mono ?_;rintro e w' ⟨rfl,rfl⟩))
      go_round
      case rel=>exact⟨k+1,by omega,by go_num,fun _=>by omega⟩
      case measure=>simp [intOf];omega
     ·obtain rfl:k=d:=by omega
      have e2:dt W (n - k)=false:=HU.out.df
      rw [e2] at H2
      clear e2
      have HE:Hid (n - k=R):=by
       show _=_
       rw [← HR.out,Ga HU.out h2 hlt]
      subst h2
      go_wp2_with (first | (go_at_call_of 208 (Value.int IntKind.i64 (n+k));refine (H1.out _).mono ?_;rintro e w' ⟨rfl,rfl⟩) | (go_at_call_of 208 (Value.int IntKind.i64 (n - k));refine (H2.out _).mono ?_;rintro e w' ⟨rfl,rfl⟩))
      go_ret
      obtain rfl:=HE.out
      exact⟨rfl,rfl⟩
    ·have h2':(mv==2)=false:=beq_eq_false_iff_ne.2 h2
     have HK':Hid (mv=2→k+1≤d):=fun a=>absurd a h2
     clear h2
     go_wp2_with (go_at_call 208;refine (H1.out _).mono ?_;rintro e w' ⟨rfl,rfl⟩)
     go_round
     case rel=>exact⟨k+1,by omega,by go_num,HK'⟩
     case measure=>simp [intOf];omega
   ·obtain rfl:k=u:=by omega
    have e1:dt W (n+k)=false:=HU.out.uf
    rw [e1] at H1
    clear e1
    have HE:Hid (n+k=R):=by
     show _=_
     rw [← HR.out,KY HU.out HZ.out HK.out]
    go_wp2_with (go_at_call 208;refine (H1.out _).mono ?_;rintro e w' ⟨rfl,rfl⟩)
    go_ret
    obtain rfl:=HE.out
    exact⟨rfl,rfl⟩
end Go.Proofs.YtpddmnmhdahnlabGreat
namespace Go.Proofs.YtpddmnmhdahnlabGreat
open Go.RowKit

theorem LH (mon day nth wd off fr to mv:Int):bQ ⟨1,mon,day,nth,wd,off,fr,to,mv⟩=decide ((1900≤fr∧fr≤2199∧fr≤to∧to≤2199∧0≤mv∧mv≤2)∧nth=0∧wd=0∧off=0∧1≤mon∧mon≤12∧1≤day∧day≤qZ mon):=by
 by_cases h:yr fr to mv
 ·rw [LV h];exact decide_eq_decide.2 ⟨fun a=>⟨h,a⟩,fun a=>a.2⟩
 ·rw [sN (by decide) h,decide_eq_false (fun a=>h a.1)]
theorem LI (mon day nth wd off fr to mv:Int):bQ ⟨2,mon,day,nth,wd,off,fr,to,mv⟩=decide ((1900≤fr∧fr≤2199∧fr≤to∧to≤2199∧0≤mv∧mv≤2)∧day=0∧off=0∧1≤mon∧mon≤12∧0≤wd∧wd≤6∧1≤nth∧nth≤5):=by
 by_cases h:yr fr to mv
 ·rw [LW h];exact decide_eq_decide.2 ⟨fun a=>⟨h,a⟩,fun a=>a.2⟩
 ·rw [sN (by decide) h,decide_eq_false (fun a=>h a.1)]
theorem LJ (mon day nth wd off fr to mv:Int):bQ ⟨3,mon,day,nth,wd,off,fr,to,mv⟩=decide ((1900≤fr∧fr≤2199∧fr≤to∧to≤2199∧0≤mv∧mv≤2)∧mon=0∧day=0∧nth=0∧wd=0∧-100≤off∧off≤100):=by
 by_cases h:yr fr to mv
 ·rw [LX h];exact decide_eq_decide.2 ⟨fun a=>⟨h,a⟩,fun a=>a.2⟩
 ·rw [sN (by decide) h,decide_eq_false (fun a=>h a.1)]
theorem gB (w:World) (o1 o2:Obj):Below w.heap.size w ((w.alloc o1).alloc o2):=((Below.refl w.heap.size w).alloc (Nat.le_refl _) _).alloc (by simp) _

theorem yx (n:Int) (w:World) :
  Calls Tryz.prog 193 #[.int .i64 n] w fun e w'=>e=.returned (.bool (decide (0≤n∧n≤109572)))∧w'=w:=by
 have:=oH n w
 rw [show decide (ak n)=decide (0≤n∧n≤109572) from decide_eq_decide.2 Iff.rfl] at this
 exact this

set_option maxHeartbeats 1600000 in
theorem lc (kind mon day nth wd off fr to mv:Int) (w:World) :
  Calls Tryz.prog 252 #[.agg #[.int .i64 kind,.int .i64 mon,.int .i64 day,.int .i64 nth,.int .i64 wd,.int .i64 off,.int .i64 fr,.int .i64 to,.int .i64 mv]] w fun e w'=>e=.returned (.bool (decide (1900≤fr∧fr≤2199∧fr≤to∧to≤2199∧0≤mv∧mv≤2)))∧Below w.heap.size w w':=by
 obtain⟨R,hR⟩:∃ R,decide (1900≤fr∧fr≤2199∧fr≤to∧to≤2199∧0≤mv∧mv≤2)=R:=⟨_,rfl⟩
 rw [hR]
 have HR:=hideS hR
 clear hR
 go_enter Tryz.func252,Tryz.ntmps252
 go_wp2_with (go_at_call 207;refine (ay _ _ _ _).mono ?_;rintro e w1 ⟨rfl,rfl⟩)
 all_goals
  go_ret
  refine⟨vE (Eq.trans ?_ HR.out),(Below.refl w.heap.size w).alloc (Nat.le_refl _) _⟩
  first | exact (decide_eq_false (by omega)).symm | exact decide_eq_decide.2 (by omega) | (rw [Bool.eq_iff_iff];simp only [Bool.and_eq_true,decide_eq_true_eq];omega)

theorem Gb {m:Int} (h1:1≤m) (h2:m≤12):bX 2000 m=qZ m:=by
 rcases month_cases h1 h2 with rfl | rfl | rfl | rfl | rfl | rfl | rfl | rfl | rfl | rfl | rfl | rfl<;>decide

set_option maxHeartbeats 3200000 in
theorem Gc (mon day nth wd off fr to mv:Int) (w:World) :
  Calls Tryz.prog 260 #[.agg #[.int .i64 4,.int .i64 mon,.int .i64 day,.int .i64 nth,.int .i64 wd,.int .i64 off,.int .i64 fr,.int .i64 to,.int .i64 mv]] w fun e w'=>e=.returned (.bool (bQ ⟨4,mon,day,nth,wd,off,fr,to,mv⟩))∧Below w.heap.size w w':=by
 rw [LU]
 obtain⟨R,hR⟩:∃ R,decide (mon=0∧nth=0∧wd=0∧off=0∧fr=0∧to=0∧mv=0∧0≤day∧day≤109572)=R:=⟨_,rfl⟩
 rw [hR]
 have HR:=hideS hR
 clear hR
 go_enter Tryz.func260,Tryz.ntmps260
 go_wp2_with (go_at_call 193;refine (yx _ _).mono ?_;rintro e w1 ⟨rfl,rfl⟩)
 all_goals
  go_ret
  refine⟨vE (Eq.trans ?_ HR.out),(Below.refl w.heap.size w).alloc (Nat.le_refl _) _⟩
  first | exact (decide_eq_false (by omega)).symm | exact decide_eq_decide.2 (by omega) | (rw [Bool.eq_iff_iff];simp only [Bool.and_eq_true,decide_eq_true_eq];omega)

set_option maxHeartbeats 3200000 in
theorem Gd (mon day nth wd off fr to mv:Int) (w:World) :
  Calls Tryz.prog 256 #[.agg #[.int .i64 3,.int .i64 mon,.int .i64 day,.int .i64 nth,.int .i64 wd,.int .i64 off,.int .i64 fr,.int .i64 to,.int .i64 mv]] w fun e w'=>e=.returned (.bool (bQ ⟨3,mon,day,nth,wd,off,fr,to,mv⟩))∧Below w.heap.size w w':=by
 rw [LJ]
 obtain⟨R,hR⟩:∃ R,decide ((1900≤fr∧fr≤2199∧fr≤to∧to≤2199∧0≤mv∧mv≤2)∧mon=0∧day=0∧nth=0∧wd=0∧-100≤off∧off≤100)=R:=⟨_,rfl⟩
 rw [hR]
 have HR:=hideS hR
 clear hR
 have HB2:=hideS (gB w)
 have HA:=hideS (fun kind mon day nth wd off fr to mv wx=>lc kind mon day nth wd off fr to mv wx)
 go_enter Tryz.func256,Tryz.ntmps256
 go_wp2_with (first | (go_at_call 207;refine (ay _ _ _ _).mono ?_;rintro e w1 ⟨rfl,rfl⟩) | (go_at_call 252;refine (HA.out _ _ _ _ _ _ _ _ _ _).mono ?_;rintro e w1 ⟨rfl,hb1⟩))
 all_goals
  go_ret
  first
  | refine⟨vE (Eq.trans ?_ HR.out),HB2.out _ _⟩
  | refine⟨vE (Eq.trans ?_ HR.out),(HB2.out _ _).trans (hb1.mono (by simp<;>omega))⟩
  first | exact (decide_eq_false (by omega)).symm | exact decide_eq_decide.2 (by omega) | (rw [Bool.eq_iff_iff];simp only [Bool.and_eq_true,decide_eq_true_eq];omega)

set_option maxHeartbeats 3200000 in
theorem Ge (mon day nth wd off fr to mv:Int) (w:World) :
  Calls Tryz.prog 254 #[.agg #[.int .i64 2,.int .i64 mon,.int .i64 day,.int .i64 nth,.int .i64 wd,.int .i64 off,.int .i64 fr,.int .i64 to,.int .i64 mv]] w fun e w'=>e=.returned (.bool (bQ ⟨2,mon,day,nth,wd,off,fr,to,mv⟩))∧Below w.heap.size w w':=by
 rw [LI]
 obtain⟨R,hR⟩:∃ R,decide ((1900≤fr∧fr≤2199∧fr≤to∧to≤2199∧0≤mv∧mv≤2)∧day=0∧off=0∧1≤mon∧mon≤12∧0≤wd∧wd≤6∧1≤nth∧nth≤5)=R:=⟨_,rfl⟩
 rw [hR]
 have HR:=hideS hR
 clear hR
 have HB2:=hideS (gB w)
 have HA:=hideS (fun kind mon day nth wd off fr to mv wx=>lc kind mon day nth wd off fr to mv wx)
 go_enter Tryz.func254,Tryz.ntmps254
 go_wp2_with (first | (go_at_call 207;refine (ay _ _ _ _).mono ?_;rintro e w1 ⟨rfl,rfl⟩) | (go_at_call 252;refine (HA.out _ _ _ _ _ _ _ _ _ _).mono ?_;rintro e w1 ⟨rfl,hb1⟩))
 all_goals
  go_ret
  first
  | refine⟨vE (Eq.trans ?_ HR.out),HB2.out _ _⟩
  | refine⟨vE (Eq.trans ?_ HR.out),(HB2.out _ _).trans (hb1.mono (by simp<;>omega))⟩
  first | exact (decide_eq_false (by omega)).symm | exact decide_eq_decide.2 (by omega) | (rw [Bool.eq_iff_iff];simp only [Bool.and_eq_true,decide_eq_true_eq];omega)

set_option maxHeartbeats 3200000 in
theorem Gf (mon day nth wd off fr to mv:Int) (w:World) :
  Calls Tryz.prog 251 #[.agg #[.int .i64 1,.int .i64 mon,.int .i64 day,.int .i64 nth,.int .i64 wd,.int .i64 off,.int .i64 fr,.int .i64 to,.int .i64 mv]] w fun e w'=>e=.returned (.bool (bQ ⟨1,mon,day,nth,wd,off,fr,to,mv⟩))∧Below w.heap.size w w':=by
 rw [LH]
 have HB2:=hideS (gB w)
 have HA:=hideS (fun kind mon day nth wd off fr to mv wx=>lc kind mon day nth wd off fr to mv wx)
 by_cases hm:1≤mon∧mon≤12
 ·have HL:=hideS (fun wx=>dZ 2000 mon wx ⟨by decide,by decide,hm.1,hm.2⟩)
  rw [Gb hm.1 hm.2] at HL
  generalize qZ mon=L at *
  obtain⟨R,hR⟩:∃ R,decide ((1900≤fr∧fr≤2199∧fr≤to∧to≤2199∧0≤mv∧mv≤2)∧nth=0∧wd=0∧off=0∧1≤mon∧mon≤12∧1≤day∧day≤L)=R:=⟨_,rfl⟩
  rw [hR]
  have HR:=hideS hR
  clear hR
  go_enter Tryz.func251,Tryz.ntmps251
  go_wp2_with (first | (go_at_call 203;refine (HL.out _).mono ?_;rintro e w1 ⟨rfl,rfl⟩) | (go_at_call 207;refine (ay _ _ _ _).mono ?_;rintro e w1 ⟨rfl,rfl⟩) | (go_at_call 252;refine (HA.out _ _ _ _ _ _ _ _ _ _).mono ?_;rintro e w1 ⟨rfl,hb1⟩))
  all_goals
   go_ret
   first
   | refine⟨vE (Eq.trans ?_ HR.out),HB2.out _ _⟩
   | refine⟨vE (Eq.trans ?_ HR.out),(HB2.out _ _).trans (hb1.mono (by simp<;>omega))⟩
   first | exact (decide_eq_false (by omega)).symm | exact decide_eq_decide.2 (by omega) | (rw [Bool.eq_iff_iff];simp only [Bool.and_eq_true,decide_eq_true_eq];omega)
 ·have HL:=hideS (fun wx=>ig 2000 mon wx (fun a=>hm ⟨a.2.2.1,a.2.2.2⟩))
  rw [decide_eq_false (fun a=>hm ⟨a.2.2.2.2.1,a.2.2.2.2.2.1⟩)]
  clear hm
  go_enter Tryz.func251,Tryz.ntmps251
  go_wp2_with (go_at_call 203;refine (HL.out _).mono ?_;rintro e w1 ⟨rfl,rfl⟩)
  all_goals
   go_ret
   exact⟨rfl,HB2.out _ _⟩

set_option maxHeartbeats 400000 in
theorem Gg (w:World) :
  Calls Tryz.prog 262 #[.agg #[]] w fun e w'=>e=.returned (.bool false)∧Below w.heap.size w w':=by
 go_enter Tryz.func262,Tryz.ntmps262
 go_wp2_with fail
 go_ret
 exact⟨rfl,(Below.refl w.heap.size w).alloc (Nat.le_refl _) _⟩

def tyK (k:Int):Nat:=if k=1 then 243 else if k=2 then 244 else if k=3 then 245 else 246
set_option maxHeartbeats 1600000 in
theorem be (kind mon day nth wd off fr to mv:Int) (w:World) (hk:kind=1∨kind=2∨kind=3∨kind=4) :
  Calls Tryz.prog 206 #[.agg #[.int .i64 kind,.int .i64 mon,.int .i64 day,.int .i64 nth,.int .i64 wd,.int .i64 off,.int .i64 fr,.int .i64 to,.int .i64 mv]] w fun e w'=>e=.returned (.iface (tyK kind) (.agg #[.int .i64 kind,.int .i64 mon,.int .i64 day,.int .i64 nth,.int .i64 wd,.int .i64 off,.int .i64 fr,.int .i64 to,.int .i64 mv]))∧Below w.heap.size w w':=by
 rcases hk with rfl | rfl | rfl | rfl
 all_goals
  go_enter Tryz.func206,Tryz.ntmps206
  go_wp2_with fail
  go_ret
  exact⟨rfl,(Below.refl w.heap.size w).alloc (Nat.le_refl _) _⟩
set_option maxHeartbeats 1600000 in
theorem oI (kind mon day nth wd off fr to mv:Int) (w:World) (hk:¬ (kind=1∨kind=2∨kind=3∨kind=4)) :
  Calls Tryz.prog 206 #[.agg #[.int .i64 kind,.int .i64 mon,.int .i64 day,.int .i64 nth,.int .i64 wd,.int .i64 off,.int .i64 fr,.int .i64 to,.int .i64 mv]] w fun e w'=>e=.returned (.iface 248 (.agg #[]))∧Below w.heap.size w w':=by
 have k1:(kind==1)=false:=beq_eq_false_iff_ne.2 (fun a=>hk (by omega))
 have k2:(kind==2)=false:=beq_eq_false_iff_ne.2 (fun a=>hk (by omega))
 have k3:(kind==3)=false:=beq_eq_false_iff_ne.2 (fun a=>hk (by omega))
 have k4:(kind==4)=false:=beq_eq_false_iff_ne.2 (fun a=>hk (by omega))
 clear hk
 go_enter Tryz.func206,Tryz.ntmps206
 go_wp2_with fail
 go_ret
 exact⟨rfl,(Below.refl w.heap.size w).alloc (Nat.le_refl _) _⟩
end Go.Proofs.YtpddmnmhdahnlabGreat
