/-  -/
import Derived.Test.YtpddmnmhdahnlaaGreatDLen
import Derived.Deep.RegionWith
import Derived.Test.YtpddmnmhdahnlaaGreatHad
import Derived.Laws.BitsAllLaws
import Derived.Laws.Bits64b
namespace Go.Proofs.YtpddmnmhdahnlaaGreat
open Go.RowKit

def ymB (y m:Int):Prop:=1900≤y∧y≤2199∧1≤m∧m≤12

theorem eE (y:Int) (w:World) :
  Calls Tryz.prog 325 #[.int .i64 y] w fun e w'=>e=.returned (.bool (decide (1900≤y∧y≤2199)))∧w'=w:=by
 by_cases h1:1900≤y<;>by_cases h2:y≤2199
 all_goals
  first | rw [decide_eq_true (⟨h1,h2⟩:1900≤y∧y≤2199)] | rw [decide_eq_false (fun h:1900≤y∧y≤2199=>by omega)]
  go_enter Tryz.func325,Tryz.ntmps325
  go_wp2
  go_ret
  exact⟨rfl,rfl⟩

theorem eF (y m:Int) (w:World) (h:ymB y m) :
  Calls Tryz.prog 312 #[.int .i64 y,.int .i64 m] w fun e w'=>e=.returned (.tuple #[.int .i64 (ce y m),.int .i64 0])∧w'=w:=by
 obtain⟨h1,h2,h3,h4⟩:=h
 have hy:=eE y
 rw [decide_eq_true (⟨h1,h2⟩:1900≤y∧y≤2199)] at hy
 have HL:=hideS (jA y m w h3 h4)
 have HY:=hideS hy
 clear hy
 generalize ce y m=L at *
 go_enter Tryz.func312,Tryz.ntmps312
 go_wp2_with (first | (go_at_call 325;refine (HY.out _).mono ?_;rintro e w' ⟨rfl,rfl⟩) | (go_at_call 313;refine HL.out.mono ?_;rintro e w' ⟨rfl,rfl⟩))
 go_ret2
 exact⟨rfl,rfl⟩
theorem ip (y m:Int) (w:World) (h:¬ ymB y m) :
  Calls Tryz.prog 312 #[.int .i64 y,.int .i64 m] w fun e w'=>e=.returned (.tuple #[.int .i64 0,.int .i64 50])∧w'=w:=by
 unfold ymB at h
 by_cases hy0:1900≤y∧y≤2199
 ·have hy:=eE y
  rw [decide_eq_true hy0] at hy
  have HY:=hideS hy
  clear hy
  rcases (show m<1∨(1≤m∧12<m) by omega) with hm | ⟨hm,hm'⟩
  all_goals
   clear h hy0
   go_enter Tryz.func312,Tryz.ntmps312
   go_wp2_with (go_at_call 325;refine (HY.out _).mono ?_;rintro e w' ⟨rfl,rfl⟩)
   go_ret2
   exact⟨rfl,rfl⟩
 ·have hy:=eE y
  rw [decide_eq_false hy0] at hy
  have HY:=hideS hy
  clear hy h hy0
  go_enter Tryz.func312,Tryz.ntmps312
  go_wp2_with (go_at_call 325;refine (HY.out _).mono ?_;rintro e w' ⟨rfl,rfl⟩)
  go_ret2
  exact⟨rfl,rfl⟩

theorem rP (y:Int) (w:World) (h:0≤y) (h':y≤3000) :
  Calls Tryz.prog 314 #[.int .i64 y] w fun e w'=>e=.returned (.int .i64 (mz y))∧w'=w:=by
 unfold mz
 go_enter Tryz.func314,Tryz.ntmps314
 go_wp2
 go_ret
 exact⟨rfl,rfl⟩

theorem iq (y:Int) (w:World) (h:1900≤y) (h':y≤2200) :
  Calls Tryz.prog 293 #[.int .i64 y] w fun e w'=>e=.returned (.int .i64 (nyI y))∧w'=w:=by
 have H1:=hideS (rP (y - 1) w (by omega) (by omega))
 have H2:=hideS (rP 1899 w (by omega) (by omega))
 have e2:mz 1899=460:=by decide
 rw [e2] at H2
 unfold nyI
 have hl:0≤mz (y - 1)∧mz (y - 1)≤3000:=by unfold mz;omega
 obtain⟨l1,l2⟩:=hl
 generalize mz (y - 1)=L at *
 clear e2
 go_enter Tryz.func293,Tryz.ntmps293
 go_wp2_with (first | (go_at_call_of 314 (Value.int IntKind.i64 1899);refine H2.out.mono ?_;rintro e w' ⟨rfl,rfl⟩) | (go_at_call 314;refine H1.out.mono ?_;rintro e w' ⟨rfl,rfl⟩))
 go_ret
 exact⟨rfl,rfl⟩

set_option maxHeartbeats 400000 in
theorem ls (y m d:Int) (w:World) (h:okD y m d) :
  Calls Tryz.prog 288 #[.int .i64 y,.int .i64 m,.int .i64 d] w fun e w'=>e=.returned (.tuple #[.int .i64 (aL y m d),.int .i64 0])∧w'=w:=by
 obtain⟨h1,h2,h3,h4,h5,h6⟩:=h
 have HL:=hideS (eF y m w ⟨h1,h2,h3,h4⟩)
 have HN:=hideS (iq y w h1 (by omega))
 have hl:=io y m
 have HLen:=hideS (fun (k:Int) (wx:World) (a:1≤k) (b:k≤12)=>jA y k wx a b)
 have HD:Hid (aL y m d=nyI y+d - 1+bZ y m):=by show _=_;unfold aL;omega
 have n1:0≤nyI y:=by have:=lX h1;omega
 have n2:nyI y≤110000:=by have:=lY h1;omega
 obtain⟨R,hR⟩:∃ R,aL y m d=R:=⟨_,rfl⟩
 rw [hR] at HD ⊢
 clear hR
 obtain⟨L,hL⟩:∃ L,ce y m=L:=⟨_,rfl⟩
 rw [hL] at HL h6 hl
 clear hL
 obtain⟨N,hN⟩:∃ N,nyI y=N:=⟨_,rfl⟩
 rw [hN] at HN n1 n2 HD
 clear hN
 go_enter Tryz.func288,Tryz.ntmps288
 go_wp2_with (first | (go_at_call 312;refine HL.out.mono ?_;rintro e w' ⟨rfl,rfl⟩) | (go_at_call 293;refine HN.out.mono ?_;rintro e w' ⟨rfl,rfl⟩))
 clear HL HN
 go_loop [35,10] (fun i n=>∃ (k:Nat) (C:Int),(k:Int)+1≤m∧0≤C∧C≤200000∧i=.int .i64 k∧n=.int .i64 C∧Hid (C=N+d - 1+bZ y (k+1))) (fun i _=>(m - intOf i).toNat)
 case atStart=>exact⟨0,N+d - 1,by omega,by omega,by omega,rfl,rfl,by show _=_;rw [show (((0:Nat):Int)+1)=1 by rfl,dP];omega⟩
 case round=>
  obtain⟨k,C,hk,hC0,hC1,rfl,rfl,HC⟩:=hrel
  by_cases hlt:(k:Int)+1<m
  ·have H:=hideS (fun wx=>HLen.out (k+1) wx (by omega) (by omega))
   have HN:Hid (C+ce y (k+1)=N+d - 1+bZ y (((k+1:Nat):Int)+1)):=by
    show _=_
    rw [HC.out,show (((k+1:Nat):Int)+1)=(k:Int)+1+1 by omega,fJ (m:=(k:Int)+1) (by omega) (by omega)];omega
   have HB:Hid (bZ y (((k+1:Nat):Int)+1)≤366):=Gq (by omega) (by omega)
   have l1:=im y (k+1)
   have l2:=io y (k+1)
   generalize ce y (k+1)=l at *
   have hlt':(k:Int)<m - 1:=by omega
   go_wp2_with (go_at_call 313;refine (H.out _).mono ?_;rintro e w' ⟨rfl,rfl⟩)
   go_round
   case rel=>exact⟨k+1,C+l,by omega,by omega,by have:=HN.out;have:=HB.out;omega,by go_num,rfl,HN⟩
   case measure=>simp [intOf];omega
  ·have hm:m=(k:Int)+1:=by omega
   have HR:Hid (C=R):=by show _=_;rw [HC.out,HD.out,hm]
   have hge:¬ (k:Int)<m - 1:=by omega
   clear HC HD hm
   go_wp2_with fail
   go_ret2
   obtain rfl:=HR.out
   exact⟨rfl,rfl⟩

theorem JG (y m d:Int) (w:World) (h:¬ okD y m d) :
  Calls Tryz.prog 288 #[.int .i64 y,.int .i64 m,.int .i64 d] w fun e w'=>e=.returned (.tuple #[.int .i64 0,.int .i64 50])∧w'=w:=by
 by_cases hy:ymB y m
 ·have HL:=hideS (eF y m w hy)
  obtain⟨h1,h2,h3,h4⟩:=hy
  unfold okD at h
  have l1:=im y m
  generalize ce y m=L at *
  rcases (show d<1∨(1≤d∧L<d) by omega) with hd | ⟨hd,hd'⟩
  all_goals
   clear h
   go_enter Tryz.func288,Tryz.ntmps288
   go_wp2_with (go_at_call 312;refine HL.out.mono ?_;rintro e w' ⟨rfl,rfl⟩)
   go_ret2
   exact⟨rfl,rfl⟩
 ·have HL:=hideS (ip y m w hy)
  clear hy h
  go_enter Tryz.func288,Tryz.ntmps288
  go_wp2_with (go_at_call 312;refine HL.out.mono ?_;rintro e w' ⟨rfl,rfl⟩)
  go_ret2
  exact⟨rfl,rfl⟩
end Go.Proofs.YtpddmnmhdahnlaaGreat
namespace Go.Proofs.YtpddmnmhdahnlaaGreat
open Go.RowKit

end Go.Proofs.YtpddmnmhdahnlaaGreat
namespace Go.Proofs.YtpddmnmhdahnlaaGreat
open Go.RowKit

theorem lu {y m:Int} (h:ymB y m) (d:Int) (h1:1≤d) (h2:d≤28):okD y m d:=by
 obtain⟨a,b,c,e⟩:=h
 have:=im y m
 exact⟨a,b,c,e,h1,by omega⟩
def ir (y:Int):Int:=aL y (eaT y / 31) (eaT y % 31+1)

structure EaW (y a b c d e f g h i k l m t:Int):Prop where
 fa:y % 19=a
 fb:y / 100=b
 fc:y % 100=c
 fd:b / 4=d
 fe:b % 4=e
 ff:(b+8) / 25=f
 fg:(b - f+1) / 3=g
 fh:(19*a+b - d - g+15) % 30=h
 fi:c / 4=i
 fk:c % 4=k
 fl:(32+2*e+2*i - h - k) % 7=l
 fm:(a+11*h+22*l) / 451=m
 ft:h+l - 7*m+114=t
theorem LI (y:Int):∃ a b c d e f g h i k l m,EaW y a b c d e f g h i k l m (eaT y):=
 ⟨_,_,_,_,_,_,_,_,_,_,_,_,⟨rfl,rfl,rfl,rfl,rfl,rfl,rfl,rfl,rfl,rfl,rfl,rfl,rfl⟩⟩

set_option maxHeartbeats 800000 in
theorem wk (y:Int) (w:World) (h0:1900≤y) (h1:y≤2199) :
  Calls Tryz.prog 361 #[.int .i64 y] w fun e w'=>e=.returned (.tuple #[.int .i64 (eaT y / 31),.int .i64 (eaT y % 31+1)])∧w'=w:=by
 obtain⟨a,b,c,d,e,f,g,h,i,k,l,m,H⟩:=LI y
 have t0:=(rO h0 h1).pos
 have t1:=(rO h0 h1).small
 generalize eaT y=t at *
 obtain⟨ea,eb,ec,ed,ee,ef,eg,eh,ei,ek,el,em,et⟩:=H
 have a0:0≤a∧a≤18:=by omega
 have b0:19≤b∧b≤21:=by omega
 have c0:0≤c∧c≤99:=by omega
 have d0:0≤d∧d≤5:=by omega
 have e0:0≤e∧e≤3:=by omega
 have f0:0≤f∧f≤2:=by omega
 have g0:0≤g∧g≤8:=by omega
 have hx:0≤h∧h≤29:=by omega
 have i0:0≤i∧i≤24:=by omega
 have k0:0≤k∧k≤3:=by omega
 have l0:0≤l∧l≤6:=by omega
 have m0:0≤m∧m≤2:=by omega
 obtain⟨a0,a1⟩:=a0
 obtain⟨b0,b1⟩:=b0
 obtain⟨c0,c1⟩:=c0
 obtain⟨d0,d1⟩:=d0
 obtain⟨e0,e1⟩:=e0
 obtain⟨f0,f1⟩:=f0
 obtain⟨g0,g1⟩:=g0
 obtain⟨hx,hx1⟩:=hx
 obtain⟨i0,i1⟩:=i0
 obtain⟨k0,k1⟩:=k0
 obtain⟨l0,l1⟩:=l0
 obtain⟨m0,m1⟩:=m0
 go_enter Tryz.func361,Tryz.ntmps361
 go_wp2_with fail
 go_ret2
 exact⟨rfl,rfl⟩

theorem CH (y:Int) (w:World) (h0:1900≤y) (h1:y≤2199) :
  Calls Tryz.prog 360 #[.int .i64 y] w fun e w'=>e=.returned (.tuple #[.int .i64 (ir y),.int .i64 0])∧w'=w:=by
 have HY:Hid (∀ w,Calls Tryz.prog 325 #[.int .i64 y] w fun e w'=>e=.returned (.bool true)∧w'=w):=fun w=>by
  have hy:=eE y w
  rw [decide_eq_true (⟨h0,h1⟩:1900≤y∧y≤2199)] at hy;exact hy
 have HE:=hideS (wk y w h0 h1)
 have HO:=hideS (ls y (eaT y / 31) (eaT y % 31+1) w (rO h0 h1).ok)
 unfold ir
 generalize aL y (eaT y / 31) (eaT y % 31+1)=R at *
 generalize eaT y / 31=M at *
 generalize eaT y % 31+1=D at *
 go_enter Tryz.func360,Tryz.ntmps360
 go_wp2_with (first | (go_at_call 325;refine (HY.out _).mono ?_;rintro e w' ⟨rfl,rfl⟩) | (go_at_call 361;refine HE.out.mono ?_;rintro e w' ⟨rfl,rfl⟩) | (go_at_call 288;refine HO.out.mono ?_;rintro e w' ⟨rfl,rfl⟩))
 go_ret2
 exact⟨rfl,rfl⟩
theorem yP (y:Int) (w:World) (h:¬ (1900≤y∧y≤2199)) :
  Calls Tryz.prog 360 #[.int .i64 y] w fun e w'=>e=.returned (.tuple #[.int .i64 0,.int .i64 50])∧w'=w:=by
 have HY:Hid (∀ w,Calls Tryz.prog 325 #[.int .i64 y] w fun e w'=>e=.returned (.bool false)∧w'=w):=fun w=>by
  have hy:=eE y w
  rw [decide_eq_false h] at hy;exact hy
 clear h
 go_enter Tryz.func360,Tryz.ntmps360
 go_wp2_with (go_at_call 325;refine (HY.out _).mono ?_;rintro e w' ⟨rfl,rfl⟩)
 go_ret2
 exact⟨rfl,rfl⟩

end Go.Proofs.YtpddmnmhdahnlaaGreat
namespace Go.Proofs.YtpddmnmhdahnlaaGreat
open Go.RowKit

theorem yQ {W n:Int} {u d u' d':Nat} (h:Ups W n u d) (h':Ups W n u' d'):u=u'∧d=d':=by
 constructor
 ·rcases Nat.lt_trichotomy u u' with e | e | e
  ·have:=h'.uo u e;rw [h.uf] at this;exact Bool.noConfusion this
  ·exact e
  ·have:=h.uo u' e;rw [h'.uf] at this;exact Bool.noConfusion this
 ·rcases Nat.lt_trichotomy d d' with e | e | e
  ·have:=h'.dn d e;rw [h.df] at this;exact Bool.noConfusion this
  ·exact e
  ·have:=h.dn d' e;rw [h'.df] at this;exact Bool.noConfusion this
open Classical in
noncomputable def mvI (W n mv:Int):Int:=if h:∃ p:Nat×Nat,Ups W n p.1 p.2 then co W n mv h.choose.1 h.choose.2 else n
theorem wu {W n mv:Int} {u d:Nat} (h:Ups W n u d):mvI W n mv=co W n mv u d:=by
 have hx:∃ p:Nat×Nat,Ups W n p.1 p.2:=⟨(u,d),h⟩
 unfold mvI
 rw [dif_pos hx]
 have e:=yQ hx.choose_spec h
 rw [e.1,e.2]
def rQ (m:Int):Int:=if m=2 then 29 else if m=4∨m=6∨m=9∨m=11 then 30 else 31
def bU (r:Rul):Bool:=
 if r.kind=4 then decide (r.mon=0∧r.nth=0∧r.wd=0∧r.off=0∧r.fr=0∧r.to=0∧r.mv=0∧0≤r.day∧r.day≤109572)
 else decide (1900≤r.fr∧r.fr≤2199∧r.fr≤r.to∧r.to≤2199∧0≤r.mv∧r.mv≤2)&&
  (if r.kind=1 then decide (r.nth=0∧r.wd=0∧r.off=0∧1≤r.mon∧r.mon≤12∧1≤r.day∧r.day≤rQ r.mon)
  else if r.kind=2 then decide (r.day=0∧r.off=0∧1≤r.mon∧r.mon≤12∧0≤r.wd∧r.wd≤6∧1≤r.nth∧r.nth≤5)
  else if r.kind=3 then decide (r.mon=0∧r.day=0∧r.nth=0∧r.wd=0∧-100≤r.off∧r.off≤100) else false)
theorem fit_cases {r:Rul} (h:bU r=true) :
  (r.kind=4∧0≤r.day∧r.day≤109572∧r.mv=0)∨
  ((1900≤r.fr∧r.fr≤r.to∧r.to≤2199∧0≤r.mv∧r.mv≤2)∧
   ((r.kind=1∧1≤r.mon∧r.mon≤12∧1≤r.day∧r.day≤rQ r.mon)∨(r.kind=2∧1≤r.mon∧r.mon≤12∧0≤r.wd∧r.wd≤6∧1≤r.nth∧r.nth≤5)∨(r.kind=3∧-100≤r.off∧r.off≤100))):=by
 unfold bU at h
 by_cases k4:r.kind=4
 ·rw [if_pos k4,decide_eq_true_eq] at h
  exact Or.inl ⟨k4,h.2.2.2.2.2.2.2.1,h.2.2.2.2.2.2.2.2,h.2.2.2.2.2.2.1⟩
 ·rw [if_neg k4,Bool.and_eq_true,decide_eq_true_eq] at h
  obtain⟨⟨a,b,c,d,e,f⟩,h⟩:=h
  refine Or.inr ⟨⟨a,c,d,e,f⟩,?_⟩
  by_cases k1:r.kind=1
  ·rw [if_pos k1,decide_eq_true_eq] at h
   exact Or.inl ⟨k1,h.2.2.2⟩
  ·rw [if_neg k1] at h
   by_cases k2:r.kind=2
   ·rw [if_pos k2,decide_eq_true_eq] at h
    exact Or.inr (Or.inl ⟨k2,h.2.2⟩)
   ·rw [if_neg k2] at h
    by_cases k3:r.kind=3
    ·rw [if_pos k3,decide_eq_true_eq] at h
     exact Or.inr (Or.inr ⟨k3,h.2.2.2.2⟩)
    ·rw [if_neg k3] at h;exact Bool.noConfusion h
open Classical in
noncomputable def lZ (r:Rul) (y:Int):Option Int:=
 if y<r.fr∨r.to<y then none
 else if r.kind=1 then (if okD y r.mon r.day then some (aL y r.mon r.day) else none)
 else if r.kind=2 then some (CG y r.mon r.wd r.nth)
 else if r.kind=3 then some (ir y+r.off) else some 0
noncomputable def Gu (W:Int) (r:Rul) (y:Int):Option Int:=(lZ r y).map (fun n=>mvI W n r.mv)
noncomputable def JH (W:Int) (r:Rul) (n Y:Int):Bool:=
 if r.kind=4 then r.day==n else Gu W r (Y - 1)==some n||Gu W r Y==some n||Gu W r (Y+1)==some n
noncomputable def tx (W:Int) (rs:List Rul) (n Y:Int):Bool:=rs.any fun r=>JH W r n Y
theorem JI {y m wd k:Int} (h:ymB y m) (_d0:0≤wd) (_d1:wd≤6) (k1:1≤k) (k5:k≤5):0≤CG y m wd k∧CG y m wd k≤110000:=by
 obtain⟨f0,f1⟩:=(lp (lu h 1 (by omega) (by omega))).range
 have l0:=im y m
 show 0≤(if k=5∧aL y m 1+ce y m≤aL y m 1+(wd - aL y m 1) % 7+7*(k - 1) then aL y m 1+(wd - aL y m 1) % 7+7*(k - 1) - 7 else aL y m 1+(wd - aL y m 1) % 7+7*(k - 1))∧(if k=5∧aL y m 1+ce y m≤aL y m 1+(wd - aL y m 1) % 7+7*(k - 1) then aL y m 1+(wd - aL y m 1) % 7+7*(k - 1) - 7 else aL y m 1+(wd - aL y m 1) % 7+7*(k - 1))≤110000
 split<;>omega
end Go.Proofs.YtpddmnmhdahnlaaGreat
namespace Go.Proofs.YtpddmnmhdahnlaaGreat
open Go.RowKit

def iu:Rul:=⟨0,0,0,0,0,0,0,0,0⟩
structure RCells (w:World) (b o:Nat) (r:Rul):Prop where
 c0:w.cell? ⟨b,o,none⟩=some (.int .i64 r.kind)
 c1:w.cell? ⟨b,o+1,none⟩=some (.int .i64 r.mon)
 c2:w.cell? ⟨b,o+2,none⟩=some (.int .i64 r.day)
 c3:w.cell? ⟨b,o+3,none⟩=some (.int .i64 r.nth)
 c4:w.cell? ⟨b,o+4,none⟩=some (.int .i64 r.wd)
 c5:w.cell? ⟨b,o+5,none⟩=some (.int .i64 r.off)
 c6:w.cell? ⟨b,o+6,none⟩=some (.int .i64 r.fr)
 c7:w.cell? ⟨b,o+7,none⟩=some (.int .i64 r.to)
 c8:w.cell? ⟨b,o+8,none⟩=some (.int .i64 r.mv)
theorem RCells.below {w w':World} {B b o:Nat} {r:Rul} (h:RCells w b o r) (hb:Below B w w') (hB:b<B):RCells w' b o r:=
 ⟨(hb.cell (p:=⟨b,o,none⟩) hB).trans h.c0,(hb.cell (p:=⟨b,o+1,none⟩) hB).trans h.c1,(hb.cell (p:=⟨b,o+2,none⟩) hB).trans h.c2,(hb.cell (p:=⟨b,o+3,none⟩) hB).trans h.c3,(hb.cell (p:=⟨b,o+4,none⟩) hB).trans h.c4,(hb.cell (p:=⟨b,o+5,none⟩) hB).trans h.c5,(hb.cell (p:=⟨b,o+6,none⟩) hB).trans h.c6,(hb.cell (p:=⟨b,o+7,none⟩) hB).trans h.c7,(hb.cell (p:=⟨b,o+8,none⟩) hB).trans h.c8⟩
structure RSrc (w:World) (p:Option Addr) (b off:Nat) (rs:List Rul):Prop where
 at_:0<rs.length→p=some ⟨b,off,none⟩
 lt:0<rs.length→b<w.heap.size
 cell:∀ i,i<rs.length→RCells w b (off+i*9) (rs.getD i iu)
theorem RSrc.below {w w':World} {p:Option Addr} {b off:Nat} {rs:List Rul} (h:RSrc w p b off rs) (hb:Below w.heap.size w w'):RSrc w' p b off rs:=
 ⟨h.at_,fun hx=>Nat.lt_of_lt_of_le (h.lt hx) hb.size,fun j hj=>(h.cell j hj).below hb (h.lt (by omega))⟩
end Go.Proofs.YtpddmnmhdahnlaaGreat
namespace Go.Proofs.YtpddmnmhdahnlaaGreat
open Go.RowKit

open Classical in
noncomputable def yrI (n:Int):Int:=if h:∃ y m d,IsD n y m d then h.choose else 0
theorem rR {n y m d:Int} (h:IsD n y m d):yrI n=y:=by
 have hx:∃ y m d,IsD n y m d:=⟨y,m,d,h⟩
 unfold yrI
 rw [dif_pos hx]
 obtain⟨m',d',h'⟩:=hx.choose_spec
 exact (h'.unique h).1
noncomputable def opB (W:Int) (rs:List Rul) (n:Int):Bool:=!dB W n&&!tx W rs n (yrI n)
def an (n:Int):Prop:=0≤n∧n≤109572
instance (n:Int):Decidable (an n):=by unfold an;infer_instance
structure OkC (W:Int) (rs:List Rul):Prop where
 len:rs.length≤64
 w0:0≤W
 w1:W≤126
 fit:∀ r ∈ rs,bU r=true
inductive ChkR (W:Int) (rs:List Rul):Int→Int→Prop where
 | long:64<rs.length→ChkR W rs 2 0
 | week:rs.length≤64→¬ (0≤W∧W≤126)→ChkR W rs 60 (-1)
 | rule (k:Nat):rs.length≤64→(0≤W∧W≤126)→k<rs.length→bU (rs.getD k iu)=false→(∀ j<k,bU (rs.getD j iu)=true)→ChkR W rs 60 k
 | ok:OkC W rs→ChkR W rs 0 0
theorem oZ {rs:List Rul} {k:Nat} (h:k<rs.length):rs.getD k iu ∈ rs:=by
 rw [List.getD_eq_getElem?_getD,List.getElem?_eq_getElem h];exact List.getElem_mem h
theorem LJ {W:Int} {rs:List Rul} {B:Int} (h:ChkR W rs 0 B):OkC W rs∧B=0:=by
 cases h with
 | ok h=>exact⟨h,rfl⟩
open Classical in
noncomputable def moI (n:Int):Int:=if h:∃ k,∃ y m d,IsD n y m d∧k=12*y+m then h.choose else 0
theorem MA {n y m d:Int} (h:IsD n y m d):moI n=12*y+m:=by
 have hx:∃ k,∃ y m d,IsD n y m d∧k=12*y+m:=⟨_,y,m,d,h,rfl⟩
 unfold moI
 rw [dif_pos hx]
 obtain⟨y',m',d',h',e⟩:=hx.choose_spec
 obtain⟨e1,e2,_⟩:=h'.unique h
 rw [e,e1,e2]

def cntN (op:Int→Bool) (a:Int):Nat→Nat
 | 0=>0
 | k+1=>cntN op a k+(if op (a+k) then 1 else 0)
theorem Gv (op:Int→Bool) (a:Int) (k:Nat):cntN op a k≤k:=by
 induction k with
 | zero=>exact Nat.le_refl _
 | succ k ih=>show cntN op a k+(if op (a+k) then 1 else 0)≤k+1;split<;>omega

end Go.Proofs.YtpddmnmhdahnlaaGreat
namespace Go.Proofs.YtpddmnmhdahnlaaGreat
open Go.RowKit

def pc (kind ya ma da yb mb db:Int):Int:=360*(yb - ya)+30*(mb - ma)+(if kind=5∨min da 30=30 then min db 30 else db) - min da 30
def pe (y n:Int):Int:=133590*(y - 1900)+(n - nyI y)*(366 - lpI y)
theorem Gw {y n:Int} (h:1900≤y) (h':y≤2200) (h0:nyI y≤n) (h1:n≤nyI (y+1)):0≤pe y n∧pe y n≤50000000:=by
 unfold pe
 rw [kt h] at h1
 rcases lp_cases y with e | e<;>rw [e] at h1 ⊢<;>constructor<;>omega
end Go.Proofs.YtpddmnmhdahnlaaGreat
namespace Go.Proofs.YtpddmnmhdahnlaaGreat
open Go.RowKit

end Go.Proofs.YtpddmnmhdahnlaaGreat
namespace Go.Proofs.YtpddmnmhdahnlaaGreat
open Go.RowKit

def CBox (w:World) (W:Int) (v:Value) (wr:World):Prop:=Below (w.heap.size+1) (w.alloc (.cells #[.int .i64 W,v] 60)) wr
theorem CBox.step {w wr w':World} {W:Int} {v:Value} (h:CBox w W v wr) (hb:Below wr.heap.size wr w'):CBox w W v w':=
 h.trans (hb.mono (by have:=h.size;simp at this;omega))
theorem CBox.below {w wr:World} {W:Int} {v:Value} (h:CBox w W v wr):Below w.heap.size w wr:=
 ((Below.refl w.heap.size w).alloc (Nat.le_refl _) _).trans (h.mono (by omega))
theorem CBox.first {w w':World} {W:Int} {v:Value} (hb:Below (w.alloc (.cells #[.int .i64 W,v] 60)).heap.size (w.alloc (.cells #[.int .i64 W,v] 60)) w'):CBox w W v w':=
 hb.mono (by simp)
end Go.Proofs.YtpddmnmhdahnlaaGreat
namespace Go.Proofs.YtpddmnmhdahnlaaGreat
open Go.RowKit

end Go.Proofs.YtpddmnmhdahnlaaGreat
namespace Go.Proofs.YtpddmnmhdahnlaaGreat
open Go.RowKit

structure HK (w:World) (W:Int) (v:Value) (b5:Nat) (Y m d:Int) (wr:World):Prop where
 box:CBox w W v wr
 d0:wr.cell? ⟨b5,0,none⟩=some (.int .i64 Y)
 d1:wr.cell? ⟨b5,1,none⟩=some (.int .i64 m)
 d2:wr.cell? ⟨b5,2,none⟩=some (.int .i64 d)
 lt:b5<wr.heap.size
theorem HK.step {w wr w':World} {W:Int} {v:Value} {b5:Nat} {Y m d:Int} (h:HK w W v b5 Y m d wr) (hb:Below wr.heap.size wr w'):HK w W v b5 Y m d w':=
 ⟨h.box.step hb,(hb.cell (p:=⟨b5,0,none⟩) h.lt).trans h.d0,(hb.cell (p:=⟨b5,1,none⟩) h.lt).trans h.d1,(hb.cell (p:=⟨b5,2,none⟩) h.lt).trans h.d2,Nat.lt_of_lt_of_le h.lt hb.size⟩
theorem HK.first {w w1:World} {W:Int} {v:Value} {Y m d:Int} (h:CBox w W v w1):HK w W v w1.heap.size Y m d (w1.alloc (.cells #[.int .i64 Y,.int .i64 m,.int .i64 d] 320)):=
 ⟨h.step ((Below.refl _ w1).alloc (Nat.le_refl _) _),by simp,by simp,by simp,by simp⟩

structure HK2 (w:World) (W:Int) (v:Value) (b5:Nat) (Y m d:Int) (b8:Nat) (r:Rul) (wr:World):Prop where
 hk:HK w W v b5 Y m d wr
 rc:RCells wr b8 0 r
 lt8:b8<wr.heap.size
theorem HK2.step {w wr w':World} {W:Int} {v:Value} {b5:Nat} {Y m d:Int} {b8:Nat} {r:Rul} (h:HK2 w W v b5 Y m d b8 r wr) (hb:Below wr.heap.size wr w'):HK2 w W v b5 Y m d b8 r w':=
 ⟨h.hk.step hb,h.rc.below hb h.lt8,Nat.lt_of_lt_of_le h.lt8 hb.size⟩
theorem HK2.first {w wr:World} {W:Int} {v:Value} {b5:Nat} {Y m d:Int} {r:Rul} (h:HK w W v b5 Y m d wr) :
  HK2 w W v b5 Y m d wr.heap.size r (wr.alloc (.cells #[.int .i64 r.kind,.int .i64 r.mon,.int .i64 r.day,.int .i64 r.nth,.int .i64 r.wd,.int .i64 r.off,.int .i64 r.fr,.int .i64 r.to,.int .i64 r.mv] 251)):=
 ⟨h.step ((Below.refl _ wr).alloc (Nat.le_refl _) _),⟨by simp,by simp,by simp,by simp,by simp,by simp,by simp,by simp,by simp⟩,by simp⟩

end Go.Proofs.YtpddmnmhdahnlaaGreat
namespace Go.Proofs.YtpddmnmhdahnlaaGreat
open Go.RowKit

theorem ww {a b:Bool} (h:a=b):Ending.returned (.bool a)=.returned (.bool b):=by rw [h]
theorem MQ (mon day nth wd off fr to mv:Int):bU ⟨4,mon,day,nth,wd,off,fr,to,mv⟩=decide (mon=0∧nth=0∧wd=0∧off=0∧fr=0∧to=0∧mv=0∧0≤day∧day≤109572):=by
 unfold bU;dsimp only;rw [if_pos rfl]
def yR (fr to mv:Int):Prop:=1900≤fr∧fr≤2199∧fr≤to∧to≤2199∧0≤mv∧mv≤2
theorem tA {kind mon day nth wd off fr to mv:Int} (h4:kind≠4) (h:¬ yR fr to mv):bU ⟨kind,mon,day,nth,wd,off,fr,to,mv⟩=false:=by
 unfold bU;dsimp only;rw [if_neg h4,show decide (1900≤fr∧fr≤2199∧fr≤to∧to≤2199∧0≤mv∧mv≤2)=false from decide_eq_false h,Bool.false_and]
theorem MR {mon day nth wd off fr to mv:Int} (h:yR fr to mv):bU ⟨1,mon,day,nth,wd,off,fr,to,mv⟩=decide (nth=0∧wd=0∧off=0∧1≤mon∧mon≤12∧1≤day∧day≤rQ mon):=by
 unfold bU;dsimp only
 rw [if_neg (by decide),show decide (1900≤fr∧fr≤2199∧fr≤to∧to≤2199∧0≤mv∧mv≤2)=true from decide_eq_true h,Bool.true_and,if_pos rfl]
theorem MS {mon day nth wd off fr to mv:Int} (h:yR fr to mv):bU ⟨2,mon,day,nth,wd,off,fr,to,mv⟩=decide (day=0∧off=0∧1≤mon∧mon≤12∧0≤wd∧wd≤6∧1≤nth∧nth≤5):=by
 unfold bU;dsimp only
 rw [if_neg (by decide),show decide (1900≤fr∧fr≤2199∧fr≤to∧to≤2199∧0≤mv∧mv≤2)=true from decide_eq_true h,Bool.true_and,if_neg (by decide),if_pos rfl]
theorem MT {mon day nth wd off fr to mv:Int} (h:yR fr to mv):bU ⟨3,mon,day,nth,wd,off,fr,to,mv⟩=decide (mon=0∧day=0∧nth=0∧wd=0∧-100≤off∧off≤100):=by
 unfold bU;dsimp only
 rw [if_neg (by decide),show decide (1900≤fr∧fr≤2199∧fr≤to∧to≤2199∧0≤mv∧mv≤2)=true from decide_eq_true h,Bool.true_and,if_neg (by decide),if_neg (by decide),if_pos rfl]
theorem LK {kind mon day nth wd off fr to mv:Int} (h1:kind≠1) (h2:kind≠2) (h3:kind≠3) (h4:kind≠4):bU ⟨kind,mon,day,nth,wd,off,fr,to,mv⟩=false:=by
 unfold bU;dsimp only
 rw [if_neg h4,if_neg h1,if_neg h2,if_neg h3,Bool.and_false]

end Go.Proofs.YtpddmnmhdahnlaaGreat
namespace Go.Proofs.YtpddmnmhdahnlaaGreat
open Go.RowKit

theorem below_drewN' {B:Nat} {w w2:World} {n:Nat} (hb:Below B w w2):Below B w (w2.drewN n):=⟨hb.os,hb.tape,hb.output,hb.size,hb.block⟩
theorem wD {w:World} (o:Obj) (p:Addr) (h:p.block<w.heap.size):(w.alloc o).cell? p=w.cell? p:=((Below.refl _ w).alloc (Nat.le_refl _) o).cell h
theorem kv {w:World} {v:Value} (cs:Array Value) (t:TypeId) (k:Nat) (h:cs[k]? =some v) {o:Obj}:((w.alloc o).alloc (.cells cs t)).cell? ⟨w.heap.size+1,k,none⟩=some v:=by
 rw [show w.heap.size+1=(w.alloc o).heap.size by simp]
 simp [h]
end Go.Proofs.YtpddmnmhdahnlaaGreat
namespace Go.Proofs.YtpddmnmhdahnlaaGreat
open Go.RowKit

end Go.Proofs.YtpddmnmhdahnlaaGreat
namespace Go.Proofs.YtpddmnmhdahnlaaGreat
open Go.RowKit

end Go.Proofs.YtpddmnmhdahnlaaGreat
namespace Go.Proofs.YtpddmnmhdahnlaaGreat
open Go.RowKit

end Go.Proofs.YtpddmnmhdahnlaaGreat
namespace Go.Proofs.YtpddmnmhdahnlaaGreat
open Go.RowKit

end Go.Proofs.YtpddmnmhdahnlaaGreat
namespace Go.Proofs.YtpddmnmhdahnlaaGreat
open Go.RowKit

end Go.Proofs.YtpddmnmhdahnlaaGreat
namespace Go.Proofs.YtpddmnmhdahnlaaGreat
open Go.RowKit

end Go.Proofs.YtpddmnmhdahnlaaGreat
namespace Go.Proofs.YtpddmnmhdahnlaaGreat
open Go.RowKit

end Go.Proofs.YtpddmnmhdahnlaaGreat
namespace Go.Proofs.YtpddmnmhdahnlaaGreat
open Go.RowKit

noncomputable def moD (n:Int):Int:=moI n - 12*yrI n
noncomputable def daD (n:Int):Int:=n - nyI (yrI n) - bZ (yrI n) (moD n)+1
theorem mN {n y m d:Int} (h:IsD n y m d):yrI n=y∧moD n=m∧daD n=d:=by
 have e1:=rR h
 have e2:moD n=m:=by unfold moD;rw [MA h,e1];omega
 refine⟨e1,e2,?_⟩
 unfold daD
 rw [e1,e2]
 have:=h.2
 unfold aL at this
 omega
noncomputable def gS (op:Int→Bool) (kind a b:Int):Int:=
 if kind=1∨kind=2 then b - a else if kind=3 then pe (yrI b) b - pe (yrI a) a else if kind=6 then (cntN op a (b - a).toNat:Nat) else pc kind (yrI a) (moD a) (daD a) (yrI b) (moD b) (daD b)
def dF (kind:Int):Int:=if kind=2 then 365 else if kind=3 then 133590 else if kind=6 then 252 else 360

structure PBoxN (w:World) (W:Int) (v:Value) (wr:World):Prop where
 a0:wr.cell? ⟨w.heap.size,0,none⟩=some (.int .i64 W)
 a1:wr.cell? ⟨w.heap.size,1,none⟩=some v
 d0:wr.cell? ⟨w.heap.size+1,0,none⟩=some (.int .i64 0)
 d1:wr.cell? ⟨w.heap.size+1,1,none⟩=some (.int .i64 0)
 f0:wr.frozen? ⟨w.heap.size+1,0,none⟩=false
 f1:wr.frozen? ⟨w.heap.size+1,1,none⟩=false
 bl:Below w.heap.size w wr
 sz:w.heap.size+2≤wr.heap.size
theorem PBoxN.first (w:World) (W:Int) (v:Value):PBoxN w W v ((w.alloc (.cells #[.int .i64 W,v] 60)).alloc (.cells #[.int .i64 0,.int .i64 0] 257)):=by
 have fr:∀ k,((w.alloc (.cells #[.int .i64 W,v] 60)).alloc (.cells #[.int .i64 0,.int .i64 0] 257)).frozen? ⟨w.heap.size+1,k,none⟩=false:=fun k=>by
  rw [show w.heap.size+1=(w.alloc (.cells #[.int .i64 W,v] 60)).heap.size by simp]
  exact World.frozen?_alloc_new _ _ _ _
 exact⟨by rw [wD _ _ (by simp)];simp,by rw [wD _ _ (by simp)];simp,kv _ _ 0 (by simp),kv _ _ 1 (by simp),fr 0,fr 1,((Below.refl w.heap.size w).alloc (Nat.le_refl _) _).alloc (by simp) _,by simp⟩
theorem PBoxN.step {w wr w':World} {W:Int} {v:Value} (h:PBoxN w W v wr) (hb:Below wr.heap.size wr w'):PBoxN w W v w':=by
 have hz:=h.sz
 have c:∀ k<w.heap.size+2,∀ j,w'.cell? ⟨k,j,none⟩=wr.cell? ⟨k,j,none⟩:=fun k hk j=>hb.cell (p:=⟨k,j,none⟩) (by show k<_;omega)
 have f:∀ k<w.heap.size+2,∀ j,w'.frozen? ⟨k,j,none⟩=wr.frozen? ⟨k,j,none⟩:=fun k hk j=>hb.frozen (p:=⟨k,j,none⟩) (by show k<_;omega)
 exact⟨(c _ (by omega) _).trans h.a0,(c _ (by omega) _).trans h.a1,(c _ (by omega) _).trans h.d0,(c _ (by omega) _).trans h.d1,(f _ (by omega) _).trans h.f0,(f _ (by omega) _).trans h.f1,h.bl.trans (hb.mono h.bl.size),Nat.le_trans h.sz hb.size⟩
end Go.Proofs.YtpddmnmhdahnlaaGreat
namespace Go.Proofs.YtpddmnmhdahnlaaGreat
open Go.RowKit

def yS (a b:Int):Prop:=¬ (an a∧an b)
end Go.Proofs.YtpddmnmhdahnlaaGreat
namespace Go.Proofs.YtpddmnmhdahnlaaGreat
open Go.RowKit

end Go.Proofs.YtpddmnmhdahnlaaGreat
namespace Go.Proofs.YtpddmnmhdahnlaaGreat
open Go.RowKit

theorem kw (op:Int→Bool) {kind a b:Int} (ha:an a) (hb:an b) (hab:a≤b): -1000000000≤gS op kind a b∧gS op kind a b≤1000000000:=by
 obtain⟨ya,ma,da,hA⟩:=gJ ha.1 ha.2
 obtain⟨yb,mb,db,hB⟩:=gJ hb.1 hb.2
 obtain⟨e1,e2,e3⟩:=mN hA
 obtain⟨f1,f2,f3⟩:=mN hB
 unfold gS
 rw [e1,e2,e3,f1,f2,f3]
 have ra:=hA.year
 have rb:=hB.year
 obtain⟨⟨a1,a2,a3,a4,a5,a6⟩,_⟩:=hA
 obtain⟨⟨b1,b2,b3,b4,b5,b6⟩,_⟩:=hB
 have la:=io ya ma
 have lb:=io yb mb
 have c:=Gv op a (b - a).toNat
 have xa:=Gw (y:=ya) (n:=a) a1 (by omega) ra.1 (by omega)
 have xb:=Gw (y:=yb) (n:=b) b1 (by omega) rb.1 (by omega)
 obtain⟨a7,a8⟩:=ha
 obtain⟨b7,b8⟩:=hb
 split
 ·omega
 ·split
  ·omega
  ·split
   ·omega
   ·unfold pc
    split<;>omega
noncomputable def iv (op:Int→Bool) (kind a b:Int):Int:=if b<a then -gS op kind b a else gS op kind a b
theorem wE (op:Int→Bool) {kind a b:Int} (ha:an a) (hb:an b): -1000000000≤iv op kind a b∧iv op kind a b≤1000000000:=by
 unfold iv
 split
 ·have:=kw op (kind:=kind) hb ha (by omega);omega
 ·exact kw op ha hb (by omega)
end Go.Proofs.YtpddmnmhdahnlaaGreat
namespace Go.Proofs.YtpddmnmhdahnlaaGreat
open Go.RowKit

end Go.Proofs.YtpddmnmhdahnlaaGreat
namespace Go.Proofs.YtpddmnmhdahnlaaGreat
open Go.RowKit

theorem rT (n:Int) (w:World) :
  Calls Tryz.prog 290 #[.int .i64 n] w fun e w'=>e=.returned (.bool (decide (0≤n∧n≤109572)))∧w'=w:=by
 by_cases h1:0≤n<;>by_cases h2:n≤109572
 all_goals
  first | rw [decide_eq_true (⟨h1,h2⟩:0≤n∧n≤109572)] | rw [decide_eq_false (fun h:0≤n∧n≤109572=>by omega)]
  go_enter Tryz.func290,Tryz.ntmps290
  go_wp2
  go_ret
  exact⟨rfl,rfl⟩
theorem CM (n:Int) (h:0≤n∧n≤109572) (w:World) :
  Calls Tryz.prog 290 #[.int .i64 n] w fun e w'=>e=.returned (.bool true)∧w'=w:=by
 have e:=rT n w
 rw [decide_eq_true h] at e;exact e
theorem Gy (n:Int) (h:¬ (0≤n∧n≤109572)) (w:World) :
  Calls Tryz.prog 290 #[.int .i64 n] w fun e w'=>e=.returned (.bool false)∧w'=w:=by
 have e:=rT n w
 rw [decide_eq_false h] at e;exact e

set_option maxHeartbeats 400000 in
theorem yT (n y:Int) (w:World) (h1:1900≤y) (h2:y≤2199) (hy:nyI y≤n) (hy':n<nyI (y+1)) :
  Calls Tryz.prog 291 #[.int .i64 n] w fun e w'=>e=.returned (.int .i64 y)∧w'=w:=by
 have n0:0≤n:=by have:=lX h1;omega
 have n1:n≤120000:=by have:=lY (y:=y+1) (by omega);omega
 have hs:1900+n / 366≤y:=by have:=lY (y:=y+1) (by omega);omega
 have HN:=hideS (fun (z:Int) (wx:World) (a:1900≤z) (b:z≤2200)=>iq z wx a b)
 have HY:=hideS hy
 have HY':=hideS hy'
 clear hy hy'
 go_enter Tryz.func291,Tryz.ntmps291
 go_wp2_with fail
 go_loop [3] (fun i=>∃ (j:Int),1900≤j∧j≤y∧i=.int .i64 j) (fun i=>(y - intOf i).toNat)
 case atStart=>exact⟨1900+n / 366,by omega,hs,rfl⟩
 case round=>
  obtain⟨j,hj1,hj2,rfl⟩:=hrel
  have H:=hideS (fun wx=>HN.out (j+1) wx (by omega) (by omega))
  by_cases hlt:j<y
  ·have hle:nyI (j+1)≤n:=by
    have:=dI (y:=j+1) (z:=y) (by omega) (by omega)
    have:=HY.out
    omega
   generalize nyI (j+1)=N at *
   go_wp2_with (go_at_call 293;refine (H.out _).mono ?_;rintro e w' ⟨rfl,rfl⟩)
   go_round
   case rel=>exact⟨j+1,by omega,by omega,rfl⟩
   case measure=>simp [intOf];omega
  ·obtain rfl:j=y:=by omega
   have hle:¬ nyI (j+1)≤n:=by have:=HY'.out;omega
   clear HY'
   generalize nyI (j+1)=N at *
   go_wp2_with (go_at_call 293;refine (H.out _).mono ?_;rintro e w' ⟨rfl,rfl⟩)
   go_ret
   exact⟨rfl,rfl⟩

set_option maxHeartbeats 800000 in
theorem mA (y m r:Int) (w:World) (h1:1≤m) (h2:m≤12) (hm:bZ y m≤r) (hm':r<bZ y (m+1)) :
  Calls Tryz.prog 292 #[.int .i64 y,.int .i64 r] w fun e w'=>e=.returned (.tuple #[.int .i64 m,.int .i64 (r - bZ y m+1)])∧w'=w:=by
 have r0:0≤r:=by have:=yO (y:=y) h1 (by omega);omega
 have r1:r≤366:=by have:=Gq (y:=y) (m:=m+1) (by omega) (by omega);omega
 have HLen:=hideS (fun (k:Int) (wx:World) (a:1≤k) (b:k≤12)=>jA y k wx a b)
 have HM:=hideS hm
 have HM':=hideS hm'
 clear hm hm'
 obtain⟨D,hD⟩:∃ D,r - bZ y m+1=D:=⟨_,rfl⟩
 rw [hD]
 have HD:=hideS hD
 clear hD
 go_enter Tryz.func292,Tryz.ntmps292
 go_wp2_with fail
 go_loop [7,1,4] (fun i b _=>∃ (k:Int) (C:Int),0≤k∧k+1≤m∧0≤C∧C≤366∧i=.int .i64 k∧b=.int .i64 C∧Hid (C=r - bZ y (k+1))) (fun i _ _=>(m - intOf i).toNat)
 case atStart=>exact⟨0,r,by omega,by omega,by omega,by omega,rfl,rfl,by show _=_;rw [show ((0:Int)+1)=1 by rfl,dP];omega⟩
 case round=>
  obtain⟨k,C,hk0,hk,hC0,hC1,rfl,rfl,HC⟩:=hrel
  have H:=hideS (fun wx=>HLen.out (k+1) wx (by omega) (by omega))
  have l1:=im y (k+1)
  have HS:Hid (bZ y (k+1+1)=bZ y (k+1)+ce y (k+1)):=fJ (m:=k+1) (by omega) (by omega)
  by_cases hlt:k+1<m
  ·have hle:¬ C<ce y (k+1):=by
    have:=fK (y:=y) (m:=k+1+1) (k:=m) (by omega) (by omega) (by omega)
    have:=HM.out
    have:=HS.out
    have:=HC.out
    omega
   have HC':Hid (C - ce y (k+1)=r - bZ y (k+1+1)):=by
    show _=_
    rw [HS.out,HC.out];omega
   generalize ce y (k+1)=l at *
   go_wp2_with (go_at_call 313;refine (H.out _).mono ?_;rintro e w' ⟨rfl,rfl⟩)
   go_round
   case rel=>exact⟨k+1,C - l,by omega,by omega,by omega,by omega,rfl,rfl,HC'⟩
   case measure=>simp [intOf];omega
  ·have hle:C<ce y (k+1):=by
    have:=HM'.out
    rw [show m+1=k+1+1 by omega,HS.out] at this
    have:=HC.out
    omega
   have hm:m=k+1:=by omega
   have HE:Hid (C+1=D):=by
    show _=_
    rw [← HD.out,HC.out,hm]
   have HMk:=hideS hm
   clear hm HD HC HM HM'
   generalize ce y (k+1)=l at *
   go_wp2_with (go_at_call 313;refine (H.out _).mono ?_;rintro e w' ⟨rfl,rfl⟩)
   go_ret2
   obtain rfl:=HE.out
   obtain rfl:=HMk.out
   exact⟨rfl,rfl⟩

theorem kz {fn:Func} {t u v x:Tmp} (h:fn.results=#[.tmp t,.tmp u,.tmp v,.tmp x]) (tmps:Array Value) (P:Program) (w:World) :
  (results fn tmps).run P w=.ok (.tuple #[tmps.getD t undef,tmps.getD u undef,tmps.getD v undef,tmps.getD x undef]) w:=by
 simp [results,h]

set_option maxHeartbeats 400000 in
theorem fL (n y m d:Int) (w:World) (h:IsD n y m d) :
  Calls Tryz.prog 260 #[.int .i64 n] w fun e w'=>e=.returned (.tuple #[.int .i64 y,.int .i64 m,.int .i64 d,.int .i64 0])∧w'=w:=by
 obtain⟨n0,n1⟩:=h.range
 obtain⟨a,b⟩:=h.year
 obtain⟨a',b'⟩:=h.month
 have HY:=hideS (CM n ⟨n0,n1⟩)
 have hd:n - nyI y - bZ y m+1=d:=by have:=h.2;unfold aL at this;omega
 obtain⟨h1,h2,h3,h4,_,_⟩:=h.1
 clear h
 have H1:=hideS (fun wx=>yT n y wx h1 h2 a b)
 have H2:=hideS (fun wx=>iq y wx h1 (by omega))
 have h5:=fun wx=>mA y m (n - nyI y) wx h3 h4 a' b'
 rw [hd] at h5
 have H3:=hideS h5
 have c1:=yO (y:=y) h3 (by omega)
 have n2:=lX h1
 clear h5 hd b b' a'
 generalize nyI y=N at *
 go_enter Tryz.func260,Tryz.ntmps260
 go_wp2_with (first | (go_at_call 290;refine (HY.out _).mono ?_;rintro e w' ⟨rfl,rfl⟩) | (go_at_call 291;refine (H1.out _).mono ?_;rintro e w' ⟨rfl,rfl⟩) | (go_at_call 293;refine (H2.out _).mono ?_;rintro e w' ⟨rfl,rfl⟩) | (go_at_call 292;refine (H3.out _).mono ?_;rintro e w' ⟨rfl,rfl⟩))
 (try simp only [Exit.inBlock,Exit.then])
 refine bodyPost_ret (kz rfl _ _ _) rfl ?_
 exact⟨rfl,rfl⟩
theorem rU (n:Int) (w:World) (h:¬ (0≤n∧n≤109572)) :
  Calls Tryz.prog 260 #[.int .i64 n] w fun e w'=>e=.returned (.tuple #[.int .i64 0,.int .i64 0,.int .i64 0,.int .i64 51])∧w'=w:=by
 have HY:=hideS (Gy n h)
 clear h
 go_enter Tryz.func260,Tryz.ntmps260
 go_wp2_with (go_at_call 290;refine (HY.out _).mono ?_;rintro e w' ⟨rfl,rfl⟩)
 (try simp only [Exit.inBlock,Exit.then])
 refine bodyPost_ret (kz rfl _ _ _) rfl ?_
 exact⟨rfl,rfl⟩
end Go.Proofs.YtpddmnmhdahnlaaGreat
namespace Go.Proofs.YtpddmnmhdahnlaaGreat
open Go.RowKit

end Go.Proofs.YtpddmnmhdahnlaaGreat
namespace Go.Proofs.YtpddmnmhdahnlaaGreat
open Go.RowKit

open Classical in
noncomputable def bQ (r:Rul) (y:Int):Option Int:=if r.kind=4 then (if yrI r.day=y then some r.day else none) else lZ r y
noncomputable def mkB (W:Int) (r:Rul) (y n:Int):Bool:=(bQ r y).map (fun g=>mvI W g r.mv)==some n
noncomputable def mkT (W:Int) (r:Rul) (Y n:Int):Nat→Bool
 | 0=>false
 | t+1=>mkT W r Y n t||mkB W r (Y - 1+t) n
noncomputable def mkK (W:Int) (rs:List Rul) (Y n:Int):Nat→Bool
 | 0=>false
 | k+1=>mkK W rs Y n k||mkT W (rs.getD k iu) Y n 3

theorem JJ {W n:Int} (h0:0≤W) (h1:W≤126):mvI W n 0=n:=by
 obtain⟨u,d,hu⟩:=oY h0 h1 n
 rw [wu hu];unfold co;rw [if_pos (Or.inl rfl)]
theorem JK {W:Int} {r:Rul} {Y n:Int} (h0:0≤W) (h1:W≤126) (hf:bU r=true) (hy:yrI n=Y):mkT W r Y n 3=JH W r n Y:=by
 show (((false||mkB W r (Y - 1+((0:Nat):Int)) n)||mkB W r (Y - 1+((1:Nat):Int)) n)||mkB W r (Y - 1+((2:Nat):Int)) n)=_
 rw [show Y - 1+((0:Nat):Int)=Y - 1 by omega,show Y - 1+((1:Nat):Int)=Y by omega,show Y - 1+((2:Nat):Int)=Y+1 by omega,Bool.false_or]
 unfold JH
 by_cases k4:r.kind=4
 ·rw [if_pos k4]
  have hmv:r.mv=0:=by
   rcases fit_cases hf with⟨_,_,_,a⟩| ⟨_,⟨a,_⟩| ⟨a,_⟩| ⟨a,_⟩⟩
   ·exact a
   ·omega
   ·omega
   ·omega
  have key:∀ y,mkB W r y n=(decide (yrI r.day=y)&&(r.day==n)):=fun y=>by
   unfold mkB bQ
   rw [if_pos k4]
   by_cases e:yrI r.day=y
   ·rw [if_pos e,Option.map_some,hmv,JJ h0 h1,decide_eq_true e,Bool.true_and];rfl
   ·rw [if_neg e,decide_eq_false e,Bool.false_and];rfl
  rw [key,key,key]
  by_cases e:r.day=n
  ·rw [e,hy,decide_eq_true (rfl:Y=Y)]
   simp
  ·rw [beq_eq_false_iff_ne.2 e]
   simp
 ·rw [if_neg k4]
  have key:∀ y,mkB W r y n=(Gu W r y==some n):=fun y=>by
   unfold mkB bQ Gu
   rw [if_neg k4]
  rw [key,key,key]
theorem JL {W:Int} {rs:List Rul} {Y n:Int} (h0:0≤W) (h1:W≤126) (hf:∀ r ∈ rs,bU r=true) (hy:yrI n=Y):mkK W rs Y n rs.length=tx W rs n Y:=by
 have key:∀ k,k≤rs.length→mkK W rs Y n k=(rs.take k).any fun r=>JH W r n Y:=fun k=>by
  induction k with
  | zero=>intro _;rfl
  | succ k ih=>
   intro hk
   have e:rs[k]? =some (rs.getD k iu):=by simp [List.getD,List.getElem?_eq_getElem (show k<rs.length by omega)]
   show (mkK W rs Y n k||mkT W (rs.getD k iu) Y n 3)=_
   rw [ih (by omega),JK h0 h1 (hf _ (oZ (by omega))) hy,List.take_add_one,e,List.any_append]
   simp
 rw [key _ (Nat.le_refl _),List.take_length]
 rfl
theorem KB {n Y:Int} (y0:1900≤Y) (y1:Y≤2199) (h:nyI Y≤n) (h':n<nyI (Y+1)):yrI n=Y:=by
 have a:=dI (y:=1900) (z:=Y) (by omega) y0
 have b:=dI (y:=Y+1) (z:=2200) (by omega) (by omega)
 rw [oW] at a
 rw [tw] at b
 obtain⟨y,m,d,hd⟩:=gJ (n:=n) (by omega) (by omega)
 rw [rR hd]
 have hy:=hd.year
 have h0:=hd.1.1
 rcases Int.lt_trichotomy y Y with e | e | e
 ·have:=dI (y:=y+1) (z:=Y) (by omega) (by omega);omega
 ·exact e
 ·have:=dI (y:=Y+1) (z:=y) (by omega) (by omega);omega
theorem MB {n:Int} (hn:an n):1900≤yrI n∧yrI n≤2199∧nyI (yrI n)≤n∧n<nyI (yrI n+1):=by
 obtain⟨y,m,d,hd⟩:=gJ hn.1 hn.2
 rw [rR hd]
 exact⟨hd.1.1,hd.1.2.1,hd.year⟩
theorem CN (Y:Int):aL Y 1 1=nyI Y:=by unfold aL;rw [dP];omega
theorem GA {Y:Int} (h:1900≤Y):aL Y 12 31=nyI (Y+1) - 1:=by
 have e:=fJ (y:=Y) (m:=12) (by omega) (by omega)
 rw [show (12+1:Int)=13 by decide,ku] at e
 have e2:ce Y 12=31:=by unfold ce;rw [if_neg (by decide),if_neg (by decide)]
 rw [kt h]
 unfold aL
 omega
theorem yX {Y:Int} (y0:1900≤Y) (y1:Y≤2199):okD Y 1 1:=⟨y0,y1,by decide,by decide,by decide,by have:=im Y 1;omega⟩
theorem GB {Y:Int} (y0:1900≤Y) (y1:Y≤2199):okD Y 12 31:=⟨y0,y1,by decide,by decide,by decide,by unfold ce;rw [if_neg (by decide),if_neg (by decide)];decide⟩
theorem GC {W:Int} {r:Rul} {y n:Int} (h:bQ r y=none):mkB W r y n=false:=by unfold mkB;rw [h];rfl
theorem wJ {W:Int} {r:Rul} {y n g:Int} (h:bQ r y=some g):mkB W r y n=decide (mvI W g r.mv=n):=by
 unfold mkB;rw [h,Option.map_some]
 by_cases e:mvI W g r.mv=n
 ·rw [e,decide_eq_true rfl];simp
 ·rw [decide_eq_false e];simpa using e
end Go.Proofs.YtpddmnmhdahnlaaGreat
namespace Go.Proofs.YtpddmnmhdahnlaaGreat
open Go.RowKit

theorem az (n lo hi:Int) (w:World) :
  Calls Tryz.prog 315 #[.int .i64 n,.int .i64 lo,.int .i64 hi] w fun e w'=>e=.returned (.bool (decide (lo≤n∧n≤hi)))∧w'=w:=by
 by_cases h1:lo≤n<;>by_cases h2:n≤hi
 all_goals
  first | rw [decide_eq_true (⟨h1,h2⟩:lo≤n∧n≤hi)] | rw [decide_eq_false (fun h:lo≤n∧n≤hi=>by omega)]
  go_enter Tryz.func315,Tryz.ntmps315
  go_wp2
  go_ret
  exact⟨rfl,rfl⟩

theorem ph (n:Int) (w:World) :
  Calls Tryz.prog 294 #[.int .i64 n] w fun e w'=>e=.returned (.bool (decide (an n)))∧w'=w:=by
 have HI:=hideS (fun wx=>az n 0 109572 wx)
 rw [show decide (an n)=decide (0≤n∧n≤109572) from decide_eq_decide.2 Iff.rfl]
 generalize decide (0≤n∧n≤109572)=R at *
 go_enter Tryz.func294,Tryz.ntmps294
 go_wp2_with (go_at_call 315;refine (HI.out _).mono ?_;rintro e w1 ⟨rfl,rfl⟩)
 go_ret
 exact⟨rfl,rfl⟩

theorem GD (n:Int):bits .and .i64 n 1=n % 2:=by
 have h1:(BitVec.ofInt 64 1).toNat=2^1 - 1:=by decide
 have key:(BitVec.ofInt 64 n&&& BitVec.ofInt 64 1).toNat=(n % ((2^64:Nat):Int)).toNat % 2^1:=by
  rw [BitVec.toNat_and,BitVec.toNat_ofInt,h1,Nat.and_two_pow_sub_one_eq_mod]
 show IntKind.i64.wrap ((BitVec.ofInt 64 n&&& BitVec.ofInt 64 1).toNat:Nat)=n % 2
 rw [key,IntKind.wrap_i64]
 omega

set_option maxHeartbeats 400000 in
theorem jf (W n:Int) (w:World) (n0: -7≤n) (n1:n≤1000000) :
  Calls Tryz.prog 316 #[.int .i64 W,.int .i64 n] w fun e w'=>e=.returned (.bool (dB W n))∧w'=w:=by
 obtain⟨k,hk⟩:∃ k:Nat,n % 7=k:=⟨(n % 7).toNat,by omega⟩
 have hak:(n+7) % 7=(k:Int):=by omega
 have hk6:k≤6:=by omega
 have hand:=GD (W / 2^k)
 unfold dB
 rw [hk]
 have HE:Hid ((W / ((2^(((k:Nat):Int)).toNat:Nat):Int) % 2==1)=(W / 2^k % 2==1)):=by
  show _=_
  rw [Int.toNat_natCast,Int.natCast_pow];rfl
 clear hk
 rw [HE.out]
 clear HE
 go_enter Tryz.func316,Tryz.ntmps316
 go_wp2_with fail
 go_ret
 exact⟨rfl,rfl⟩

theorem GF {W n mv:Int} {u d:Nat} (hu:Ups W n u d) (h0:u=0):co W n mv u d=n:=by
 unfold co
 rw [if_pos (Or.inr (by have:=hu.uf;rw [h0] at this;simpa using this))]
theorem LL {W n mv:Int} {u d:Nat} (hu:Ups W n u d) (hm:mv≠0) (hd:mv=2→u≤d):co W n mv u d=n+u:=by
 by_cases h0:u=0
 ·rw [GF hu h0,h0];omega
 ·unfold co
  have ho:dB W n=true:=by have:=hu.uo 0 (by omega);simpa using this
  rw [if_neg (fun a=>by
   rcases a with a | a
   ·exact hm a
   ·rw [ho] at a;exact Bool.noConfusion a),if_neg (fun a=>by have:=hd a.1;omega)]
theorem GG {W n mv:Int} {u d:Nat} (hu:Ups W n u d) (hm:mv=2) (hd:d<u):co W n mv u d=n - d:=by
 unfold co
 have ho:dB W n=true:=by have:=hu.uo 0 (by omega);simpa using this
 rw [if_neg (fun a=>by
   rcases a with a | a
   ·omega
   ·rw [ho] at a;exact Bool.noConfusion a),if_pos ⟨hm,by omega⟩]

set_option maxHeartbeats 1600000 in
theorem iP (W n mv:Int) (u d:Nat) (w:World) (n0: -1≤n) (n1:n≤500000) (hu:Ups W n u d) :
  Calls Tryz.prog 333 #[.int .i64 n,.int .i64 mv,.int .i64 W] w fun e w'=>e=.returned (.int .i64 (co W n mv u d))∧w'=w:=by
 have HO:Hid (∀ x wx,-7≤x→x≤1000000→Calls Tryz.prog 316 #[.int .i64 W,.int .i64 x] wx fun e w'=>e=.returned (.bool (dB W x))∧w'=wx):=fun x wx a b=>jf W x wx a b
 have HU:=hideS hu
 have u6:=hu.ub
 have d6:=hu.db
 obtain⟨R,hR⟩:∃ R,co W n mv u d=R:=⟨_,rfl⟩
 rw [hR]
 have HR:=hideS hR
 clear hR hu
 by_cases hz:mv=0
 ·have HE:Hid (n=R):=by
   show _=_
   rw [← HR.out];unfold co;rw [if_pos (Or.inl hz)]
  subst hz
  go_enter Tryz.func333,Tryz.ntmps333
  go_wp2_with fail
  go_ret
  obtain rfl:=HE.out
  exact⟨rfl,rfl⟩
 ·have hz':(mv==0)=false:=beq_eq_false_iff_ne.2 hz
  have HZ:=hideS hz
  clear hz
  go_enter Tryz.func333,Tryz.ntmps333
  go_wp2_with fail
  go_loop [11] (fun i=>∃ (k:Nat),k≤u∧i=.int .i64 k∧Hid (mv=2→k≤d)) (fun i=>u+1 - (intOf i).toNat)
  case atStart=>exact⟨0,by omega,rfl,fun _=>by omega⟩
  case round=>
   obtain⟨k,hk,rfl,HK⟩:=hrel
   have hk7:(k:Int)<7:=by omega
   have H1:=hideS (fun wx=>HO.out (n+k) wx (by omega) (by omega))
   by_cases hlt:k<u
   ·have e1:dB W (n+k)=true:=HU.out.uo k hlt
    rw [e1] at H1
    clear e1
    by_cases h2:mv=2
    ·have H2:=hideS (fun wx=>HO.out (n - k) wx (by omega) (by omega))
     have hkd:=HK.out h2
     by_cases hld:k<d
     ·have e2:dB W (n - k)=true:=HU.out.dn k hld
      rw [e2] at H2
      clear e2
      subst h2
      go_wp2_with (first | (go_at_call_of 316 (Value.int IntKind.i64 (n+k));refine (H1.out _).mono ?_;rintro e w' ⟨rfl,rfl⟩) | (go_at_call_of 316 (Value.int IntKind.i64 (n - k));refine (H2.out _).mono ?_;rintro e w' ⟨rfl,rfl⟩))
      go_round
      case rel=>exact⟨k+1,by omega,by go_num,fun _=>by omega⟩
      case measure=>simp [intOf];omega
     ·obtain rfl:k=d:=by omega
      have e2:dB W (n - k)=false:=HU.out.df
      rw [e2] at H2
      clear e2
      have HE:Hid (n - k=R):=by
       show _=_
       rw [← HR.out,GG HU.out h2 hlt]
      subst h2
      go_wp2_with (first | (go_at_call_of 316 (Value.int IntKind.i64 (n+k));refine (H1.out _).mono ?_;rintro e w' ⟨rfl,rfl⟩) | (go_at_call_of 316 (Value.int IntKind.i64 (n - k));refine (H2.out _).mono ?_;rintro e w' ⟨rfl,rfl⟩))
      go_ret
      obtain rfl:=HE.out
      exact⟨rfl,rfl⟩
    ·have h2':(mv==2)=false:=beq_eq_false_iff_ne.2 h2
     have HK':Hid (mv=2→k+1≤d):=fun a=>absurd a h2
     clear h2
     go_wp2_with (go_at_call 316;refine (H1.out _).mono ?_;rintro e w' ⟨rfl,rfl⟩)
     go_round
     case rel=>exact⟨k+1,by omega,by go_num,HK'⟩
     case measure=>simp [intOf];omega
   ·obtain rfl:k=u:=by omega
    have e1:dB W (n+k)=false:=HU.out.uf
    rw [e1] at H1
    clear e1
    have HE:Hid (n+k=R):=by
     show _=_
     rw [← HR.out,LL HU.out HZ.out HK.out]
    go_wp2_with (go_at_call 316;refine (H1.out _).mono ?_;rintro e w' ⟨rfl,rfl⟩)
    go_ret
    obtain rfl:=HE.out
    exact⟨rfl,rfl⟩
end Go.Proofs.YtpddmnmhdahnlaaGreat
namespace Go.Proofs.YtpddmnmhdahnlaaGreat
open Go.RowKit

theorem MC (mon day nth wd off fr to mv:Int):bU ⟨1,mon,day,nth,wd,off,fr,to,mv⟩=decide ((1900≤fr∧fr≤2199∧fr≤to∧to≤2199∧0≤mv∧mv≤2)∧nth=0∧wd=0∧off=0∧1≤mon∧mon≤12∧1≤day∧day≤rQ mon):=by
 by_cases h:yR fr to mv
 ·rw [MR h];exact decide_eq_decide.2 ⟨fun a=>⟨h,a⟩,fun a=>a.2⟩
 ·rw [tA (by decide) h,decide_eq_false (fun a=>h a.1)]
theorem MD (mon day nth wd off fr to mv:Int):bU ⟨2,mon,day,nth,wd,off,fr,to,mv⟩=decide ((1900≤fr∧fr≤2199∧fr≤to∧to≤2199∧0≤mv∧mv≤2)∧day=0∧off=0∧1≤mon∧mon≤12∧0≤wd∧wd≤6∧1≤nth∧nth≤5):=by
 by_cases h:yR fr to mv
 ·rw [MS h];exact decide_eq_decide.2 ⟨fun a=>⟨h,a⟩,fun a=>a.2⟩
 ·rw [tA (by decide) h,decide_eq_false (fun a=>h a.1)]
theorem ME (mon day nth wd off fr to mv:Int):bU ⟨3,mon,day,nth,wd,off,fr,to,mv⟩=decide ((1900≤fr∧fr≤2199∧fr≤to∧to≤2199∧0≤mv∧mv≤2)∧mon=0∧day=0∧nth=0∧wd=0∧-100≤off∧off≤100):=by
 by_cases h:yR fr to mv
 ·rw [MT h];exact decide_eq_decide.2 ⟨fun a=>⟨h,a⟩,fun a=>a.2⟩
 ·rw [tA (by decide) h,decide_eq_false (fun a=>h a.1)]
theorem gK (w:World) (o1 o2:Obj):Below w.heap.size w ((w.alloc o1).alloc o2):=((Below.refl w.heap.size w).alloc (Nat.le_refl _) _).alloc (by simp) _

theorem yY (n:Int) (w:World) :
  Calls Tryz.prog 294 #[.int .i64 n] w fun e w'=>e=.returned (.bool (decide (0≤n∧n≤109572)))∧w'=w:=by
 have:=ph n w
 rw [show decide (an n)=decide (0≤n∧n≤109572) from decide_eq_decide.2 Iff.rfl] at this
 exact this

set_option maxHeartbeats 1600000 in
theorem lv (kind mon day nth wd off fr to mv:Int) (w:World) :
  Calls Tryz.prog 355 #[.agg #[.int .i64 kind,.int .i64 mon,.int .i64 day,.int .i64 nth,.int .i64 wd,.int .i64 off,.int .i64 fr,.int .i64 to,.int .i64 mv]] w fun e w'=>e=.returned (.bool (decide (1900≤fr∧fr≤2199∧fr≤to∧to≤2199∧0≤mv∧mv≤2)))∧Below w.heap.size w w':=by
 obtain⟨R,hR⟩:∃ R,decide (1900≤fr∧fr≤2199∧fr≤to∧to≤2199∧0≤mv∧mv≤2)=R:=⟨_,rfl⟩
 rw [hR]
 have HR:=hideS hR
 clear hR
 go_enter Tryz.func355,Tryz.ntmps355
 go_wp2_with (go_at_call 315;refine (az _ _ _ _).mono ?_;rintro e w1 ⟨rfl,rfl⟩)
 all_goals
  go_ret
  refine⟨ww (Eq.trans ?_ HR.out),(Below.refl w.heap.size w).alloc (Nat.le_refl _) _⟩
  first | exact (decide_eq_false (by omega)).symm | exact decide_eq_decide.2 (by omega) | (rw [Bool.eq_iff_iff];simp only [Bool.and_eq_true,decide_eq_true_eq];omega)

theorem GH {m:Int} (h1:1≤m) (h2:m≤12):ce 2000 m=rQ m:=by
 rcases month_cases h1 h2 with rfl | rfl | rfl | rfl | rfl | rfl | rfl | rfl | rfl | rfl | rfl | rfl<;>decide

set_option maxHeartbeats 3200000 in
theorem GI (mon day nth wd off fr to mv:Int) (w:World) :
  Calls Tryz.prog 363 #[.agg #[.int .i64 4,.int .i64 mon,.int .i64 day,.int .i64 nth,.int .i64 wd,.int .i64 off,.int .i64 fr,.int .i64 to,.int .i64 mv]] w fun e w'=>e=.returned (.bool (bU ⟨4,mon,day,nth,wd,off,fr,to,mv⟩))∧Below w.heap.size w w':=by
 rw [MQ]
 obtain⟨R,hR⟩:∃ R,decide (mon=0∧nth=0∧wd=0∧off=0∧fr=0∧to=0∧mv=0∧0≤day∧day≤109572)=R:=⟨_,rfl⟩
 rw [hR]
 have HR:=hideS hR
 clear hR
 go_enter Tryz.func363,Tryz.ntmps363
 go_wp2_with (go_at_call 294;refine (yY _ _).mono ?_;rintro e w1 ⟨rfl,rfl⟩)
 all_goals
  go_ret
  refine⟨ww (Eq.trans ?_ HR.out),(Below.refl w.heap.size w).alloc (Nat.le_refl _) _⟩
  first | exact (decide_eq_false (by omega)).symm | exact decide_eq_decide.2 (by omega) | (rw [Bool.eq_iff_iff];simp only [Bool.and_eq_true,decide_eq_true_eq];omega)

set_option maxHeartbeats 3200000 in
theorem GJ (mon day nth wd off fr to mv:Int) (w:World) :
  Calls Tryz.prog 359 #[.agg #[.int .i64 3,.int .i64 mon,.int .i64 day,.int .i64 nth,.int .i64 wd,.int .i64 off,.int .i64 fr,.int .i64 to,.int .i64 mv]] w fun e w'=>e=.returned (.bool (bU ⟨3,mon,day,nth,wd,off,fr,to,mv⟩))∧Below w.heap.size w w':=by
 rw [ME]
 obtain⟨R,hR⟩:∃ R,decide ((1900≤fr∧fr≤2199∧fr≤to∧to≤2199∧0≤mv∧mv≤2)∧mon=0∧day=0∧nth=0∧wd=0∧-100≤off∧off≤100)=R:=⟨_,rfl⟩
 rw [hR]
 have HR:=hideS hR
 clear hR
 have HB2:=hideS (gK w)
 have HA:=hideS (fun kind mon day nth wd off fr to mv wx=>lv kind mon day nth wd off fr to mv wx)
 go_enter Tryz.func359,Tryz.ntmps359
 go_wp2_with (first | (go_at_call 315;refine (az _ _ _ _).mono ?_;rintro e w1 ⟨rfl,rfl⟩) | (go_at_call 355;refine (HA.out _ _ _ _ _ _ _ _ _ _).mono ?_;rintro e w1 ⟨rfl,hb1⟩))
 all_goals
  go_ret
  first
  | refine⟨ww (Eq.trans ?_ HR.out),HB2.out _ _⟩
  | refine⟨ww (Eq.trans ?_ HR.out),(HB2.out _ _).trans (hb1.mono (by simp<;>omega))⟩
  first | exact (decide_eq_false (by omega)).symm | exact decide_eq_decide.2 (by omega) | (rw [Bool.eq_iff_iff];simp only [Bool.and_eq_true,decide_eq_true_eq];omega)

set_option maxHeartbeats 3200000 in
theorem GK (mon day nth wd off fr to mv:Int) (w:World) :
  Calls Tryz.prog 357 #[.agg #[.int .i64 2,.int .i64 mon,.int .i64 day,.int .i64 nth,.int .i64 wd,.int .i64 off,.int .i64 fr,.int .i64 to,.int .i64 mv]] w fun e w'=>e=.returned (.bool (bU ⟨2,mon,day,nth,wd,off,fr,to,mv⟩))∧Below w.heap.size w w':=by
 rw [MD]
 obtain⟨R,hR⟩:∃ R,decide ((1900≤fr∧fr≤2199∧fr≤to∧to≤2199∧0≤mv∧mv≤2)∧day=0∧off=0∧1≤mon∧mon≤12∧0≤wd∧wd≤6∧1≤nth∧nth≤5)=R:=⟨_,rfl⟩
 rw [hR]
 have HR:=hideS hR
 clear hR
 have HB2:=hideS (gK w)
 have HA:=hideS (fun kind mon day nth wd off fr to mv wx=>lv kind mon day nth wd off fr to mv wx)
 go_enter Tryz.func357,Tryz.ntmps357
 go_wp2_with (first | (go_at_call 315;refine (az _ _ _ _).mono ?_;rintro e w1 ⟨rfl,rfl⟩) | (go_at_call 355;refine (HA.out _ _ _ _ _ _ _ _ _ _).mono ?_;rintro e w1 ⟨rfl,hb1⟩))
 all_goals
  go_ret
  first
  | refine⟨ww (Eq.trans ?_ HR.out),HB2.out _ _⟩
  | refine⟨ww (Eq.trans ?_ HR.out),(HB2.out _ _).trans (hb1.mono (by simp<;>omega))⟩
  first | exact (decide_eq_false (by omega)).symm | exact decide_eq_decide.2 (by omega) | (rw [Bool.eq_iff_iff];simp only [Bool.and_eq_true,decide_eq_true_eq];omega)

set_option maxHeartbeats 3200000 in
theorem GL (mon day nth wd off fr to mv:Int) (w:World) :
  Calls Tryz.prog 354 #[.agg #[.int .i64 1,.int .i64 mon,.int .i64 day,.int .i64 nth,.int .i64 wd,.int .i64 off,.int .i64 fr,.int .i64 to,.int .i64 mv]] w fun e w'=>e=.returned (.bool (bU ⟨1,mon,day,nth,wd,off,fr,to,mv⟩))∧Below w.heap.size w w':=by
 rw [MC]
 have HB2:=hideS (gK w)
 have HA:=hideS (fun kind mon day nth wd off fr to mv wx=>lv kind mon day nth wd off fr to mv wx)
 by_cases hm:1≤mon∧mon≤12
 ·have HL:=hideS (fun wx=>eF 2000 mon wx ⟨by decide,by decide,hm.1,hm.2⟩)
  rw [GH hm.1 hm.2] at HL
  generalize rQ mon=L at *
  obtain⟨R,hR⟩:∃ R,decide ((1900≤fr∧fr≤2199∧fr≤to∧to≤2199∧0≤mv∧mv≤2)∧nth=0∧wd=0∧off=0∧1≤mon∧mon≤12∧1≤day∧day≤L)=R:=⟨_,rfl⟩
  rw [hR]
  have HR:=hideS hR
  clear hR
  go_enter Tryz.func354,Tryz.ntmps354
  go_wp2_with (first | (go_at_call 312;refine (HL.out _).mono ?_;rintro e w1 ⟨rfl,rfl⟩) | (go_at_call 315;refine (az _ _ _ _).mono ?_;rintro e w1 ⟨rfl,rfl⟩) | (go_at_call 355;refine (HA.out _ _ _ _ _ _ _ _ _ _).mono ?_;rintro e w1 ⟨rfl,hb1⟩))
  all_goals
   go_ret
   first
   | refine⟨ww (Eq.trans ?_ HR.out),HB2.out _ _⟩
   | refine⟨ww (Eq.trans ?_ HR.out),(HB2.out _ _).trans (hb1.mono (by simp<;>omega))⟩
   first | exact (decide_eq_false (by omega)).symm | exact decide_eq_decide.2 (by omega) | (rw [Bool.eq_iff_iff];simp only [Bool.and_eq_true,decide_eq_true_eq];omega)
 ·have HL:=hideS (fun wx=>ip 2000 mon wx (fun a=>hm ⟨a.2.2.1,a.2.2.2⟩))
  rw [decide_eq_false (fun a=>hm ⟨a.2.2.2.2.1,a.2.2.2.2.2.1⟩)]
  clear hm
  go_enter Tryz.func354,Tryz.ntmps354
  go_wp2_with (go_at_call 312;refine (HL.out _).mono ?_;rintro e w1 ⟨rfl,rfl⟩)
  all_goals
   go_ret
   exact⟨rfl,HB2.out _ _⟩

set_option maxHeartbeats 400000 in
theorem GM (w:World) :
  Calls Tryz.prog 365 #[.agg #[]] w fun e w'=>e=.returned (.bool false)∧Below w.heap.size w w':=by
 go_enter Tryz.func365,Tryz.ntmps365
 go_wp2_with fail
 go_ret
 exact⟨rfl,(Below.refl w.heap.size w).alloc (Nat.le_refl _) _⟩

def tyK (k:Int):Nat:=if k=1 then 338 else if k=2 then 339 else if k=3 then 340 else 341
set_option maxHeartbeats 1600000 in
theorem bf (kind mon day nth wd off fr to mv:Int) (w:World) (hk:kind=1∨kind=2∨kind=3∨kind=4) :
  Calls Tryz.prog 267 #[.agg #[.int .i64 kind,.int .i64 mon,.int .i64 day,.int .i64 nth,.int .i64 wd,.int .i64 off,.int .i64 fr,.int .i64 to,.int .i64 mv]] w fun e w'=>e=.returned (.iface (tyK kind) (.agg #[.int .i64 kind,.int .i64 mon,.int .i64 day,.int .i64 nth,.int .i64 wd,.int .i64 off,.int .i64 fr,.int .i64 to,.int .i64 mv]))∧Below w.heap.size w w':=by
 rcases hk with rfl | rfl | rfl | rfl
 all_goals
  go_enter Tryz.func267,Tryz.ntmps267
  go_wp2_with fail
  go_ret
  exact⟨rfl,(Below.refl w.heap.size w).alloc (Nat.le_refl _) _⟩
set_option maxHeartbeats 1600000 in
theorem pj (kind mon day nth wd off fr to mv:Int) (w:World) (hk:¬ (kind=1∨kind=2∨kind=3∨kind=4)) :
  Calls Tryz.prog 267 #[.agg #[.int .i64 kind,.int .i64 mon,.int .i64 day,.int .i64 nth,.int .i64 wd,.int .i64 off,.int .i64 fr,.int .i64 to,.int .i64 mv]] w fun e w'=>e=.returned (.iface 343 (.agg #[]))∧Below w.heap.size w w':=by
 have k1:(kind==1)=false:=beq_eq_false_iff_ne.2 (fun a=>hk (by omega))
 have k2:(kind==2)=false:=beq_eq_false_iff_ne.2 (fun a=>hk (by omega))
 have k3:(kind==3)=false:=beq_eq_false_iff_ne.2 (fun a=>hk (by omega))
 have k4:(kind==4)=false:=beq_eq_false_iff_ne.2 (fun a=>hk (by omega))
 clear hk
 go_enter Tryz.func267,Tryz.ntmps267
 go_wp2_with fail
 go_ret
 exact⟨rfl,(Below.refl w.heap.size w).alloc (Nat.le_refl _) _⟩
end Go.Proofs.YtpddmnmhdahnlaaGreat
