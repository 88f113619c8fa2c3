/-  -/
import Derived.Test.YtcmbfflemoccmaaGreatDLen
import Derived.Deep.RegionWith
import Derived.Test.YtcmbfflemoccmaaGreatHad
import Derived.Laws.BitsAllLaws
import Derived.Laws.Bits64b
namespace Go.Proofs.YtcmbfflemoccmaaGreat
open Go.RowKit

def ymB (y m:Int):Prop:=1900≤y∧y≤2199∧1≤m∧m≤12

theorem fP (y:Int) (w:World) :
  Calls Tryz.prog 232 #[.int .i64 y] w fun e w'=>e=.returned (.bool (decide (1900≤y∧y≤2199)))∧w'=w:=by
 by_cases h1:1900≤y<;>by_cases h2:y≤2199
 all_goals
  first | rw [decide_eq_true (⟨h1,h2⟩:1900≤y∧y≤2199)] | rw [decide_eq_false (fun h:1900≤y∧y≤2199=>by omega)]
  go_enter Tryz.func232,Tryz.ntmps232
  go_wp2
  go_ret
  exact⟨rfl,rfl⟩

theorem fQ (y m:Int) (w:World) (h:ymB y m) :
  Calls Tryz.prog 210 #[.int .i64 y,.int .i64 m] w fun e w'=>e=.returned (.tuple #[.int .i64 (bp y m),.int .i64 0])∧w'=w:=by
 obtain⟨h1,h2,h3,h4⟩:=h
 have hy:=fP y
 rw [decide_eq_true (⟨h1,h2⟩:1900≤y∧y≤2199)] at hy
 have HL:=hideS (kx y m w h3 h4)
 have HY:=hideS hy
 clear hy
 generalize bp y m=L at *
 go_enter Tryz.func210,Tryz.ntmps210
 go_wp2_with (first | (go_at_call 232;refine (HY.out _).mono ?_;rintro e w' ⟨rfl,rfl⟩) | (go_at_call 211;refine HL.out.mono ?_;rintro e w' ⟨rfl,rfl⟩))
 go_ret2
 exact⟨rfl,rfl⟩
theorem jj (y m:Int) (w:World) (h:¬ ymB y m) :
  Calls Tryz.prog 210 #[.int .i64 y,.int .i64 m] w fun e w'=>e=.returned (.tuple #[.int .i64 0,.int .i64 50])∧w'=w:=by
 unfold ymB at h
 by_cases hy0:1900≤y∧y≤2199
 ·have hy:=fP y
  rw [decide_eq_true hy0] at hy
  have HY:=hideS hy
  clear hy
  rcases (show m<1∨(1≤m∧12<m) by omega) with hm | ⟨hm,hm'⟩
  all_goals
   clear h hy0
   go_enter Tryz.func210,Tryz.ntmps210
   go_wp2_with (go_at_call 232;refine (HY.out _).mono ?_;rintro e w' ⟨rfl,rfl⟩)
   go_ret2
   exact⟨rfl,rfl⟩
 ·have hy:=fP y
  rw [decide_eq_false hy0] at hy
  have HY:=hideS hy
  clear hy h hy0
  go_enter Tryz.func210,Tryz.ntmps210
  go_wp2_with (go_at_call 232;refine (HY.out _).mono ?_;rintro e w' ⟨rfl,rfl⟩)
  go_ret2
  exact⟨rfl,rfl⟩

theorem gj (y m:Int) (w:World) (h:ymB y m) :
  Calls Tryz.prog 172 #[.int .i64 y,.int .i64 m] w fun e w'=>e=.returned (.tuple #[.int .i64 (bp y m),.int .i64 0])∧w'=w:=by
 obtain⟨h1,h2,h3,h4⟩:=h
 have HL:=hideS (gi y m w h3 h4)
 generalize bp y m=L at *
 go_enter Tryz.func172,Tryz.ntmps172
 go_wp2_with (go_at_call 171;refine HL.out.mono ?_;rintro e w' ⟨rfl,rfl⟩)
 go_ret2
 exact⟨rfl,rfl⟩
theorem qp (y m:Int) (w:World) (h:¬ ymB y m) :
  Calls Tryz.prog 172 #[.int .i64 y,.int .i64 m] w fun e w'=>e=.returned (.tuple #[.int .i64 0,.int .i64 50])∧w'=w:=by
 unfold ymB at h
 rcases (show y<1900∨(1900≤y∧2199<y)∨((1900≤y∧y≤2199)∧m<1)∨((1900≤y∧y≤2199)∧1≤m∧12<m) by omega) with h1 | ⟨h1,h2⟩| ⟨⟨h1,h2⟩,h3⟩| ⟨⟨h1,h2⟩,h3,h4⟩
 all_goals
  clear h
  go_enter Tryz.func172,Tryz.ntmps172
  go_wp2
  go_ret2
  exact⟨rfl,rfl⟩

theorem sR (y:Int) (w:World) (h:0≤y) (h':y≤3000) :
  Calls Tryz.prog 212 #[.int .i64 y] w fun e w'=>e=.returned (.int .i64 (nM y))∧w'=w:=by
 unfold nM
 go_enter Tryz.func212,Tryz.ntmps212
 go_wp2
 go_ret
 exact⟨rfl,rfl⟩

theorem jk (y:Int) (w:World) (h:1900≤y) (h':y≤2200) :
  Calls Tryz.prog 189 #[.int .i64 y] w fun e w'=>e=.returned (.int .i64 (nyI y))∧w'=w:=by
 have H1:=hideS (sR (y - 1) w (by omega) (by omega))
 have H2:=hideS (sR 1899 w (by omega) (by omega))
 have e2:nM 1899=460:=by decide
 rw [e2] at H2
 unfold nyI
 have hl:0≤nM (y - 1)∧nM (y - 1)≤3000:=by unfold nM;omega
 obtain⟨l1,l2⟩:=hl
 generalize nM (y - 1)=L at *
 clear e2
 go_enter Tryz.func189,Tryz.ntmps189
 go_wp2_with (first | (go_at_call_of 212 (Value.int IntKind.i64 1899);refine H2.out.mono ?_;rintro e w' ⟨rfl,rfl⟩) | (go_at_call 212;refine H1.out.mono ?_;rintro e w' ⟨rfl,rfl⟩))
 go_ret
 exact⟨rfl,rfl⟩

set_option maxHeartbeats 400000 in
theorem mC (y m d:Int) (w:World) (h:okD y m d) :
  Calls Tryz.prog 184 #[.int .i64 y,.int .i64 m,.int .i64 d] w fun e w'=>e=.returned (.tuple #[.int .i64 (ay y m d),.int .i64 0])∧w'=w:=by
 obtain⟨h1,h2,h3,h4,h5,h6⟩:=h
 have HL:=hideS (fQ y m w ⟨h1,h2,h3,h4⟩)
 have HN:=hideS (jk y w h1 (by omega))
 have hl:=dO y m
 have HLen:=hideS (fun (k:Int) (wx:World) (a:1≤k) (b:k≤12)=>kx y k wx a b)
 have HD:Hid (ay y m d=nyI y+d - 1+bI y m):=by show _=_;unfold ay;omega
 have n1:0≤nyI y:=by have:=ni h1;omega
 have n2:nyI y≤110000:=by have:=lv h1;omega
 obtain⟨R,hR⟩:∃ R,ay y m d=R:=⟨_,rfl⟩
 rw [hR] at HD ⊢
 clear hR
 obtain⟨L,hL⟩:∃ L,bp y m=L:=⟨_,rfl⟩
 rw [hL] at HL h6 hl
 clear hL
 obtain⟨N,hN⟩:∃ N,nyI y=N:=⟨_,rfl⟩
 rw [hN] at HN n1 n2 HD
 clear hN
 go_enter Tryz.func184,Tryz.ntmps184
 go_wp2_with (first | (go_at_call 210;refine HL.out.mono ?_;rintro e w' ⟨rfl,rfl⟩) | (go_at_call 189;refine HN.out.mono ?_;rintro e w' ⟨rfl,rfl⟩))
 clear HL HN
 go_loop [35,10] (fun i n=>∃ (k:Nat) (C:Int),(k:Int)+1≤m∧0≤C∧C≤200000∧i=.int .i64 k∧n=.int .i64 C∧Hid (C=N+d - 1+bI y (k+1))) (fun i _=>(m - intOf i).toNat)
 case atStart=>exact⟨0,N+d - 1,by omega,by omega,by omega,rfl,rfl,by show _=_;rw [show (((0:Nat):Int)+1)=1 by rfl,cF];omega⟩
 case round=>
  obtain⟨k,C,hk,hC0,hC1,rfl,rfl,HC⟩:=hrel
  by_cases hlt:(k:Int)+1<m
  ·have H:=hideS (fun wx=>HLen.out (k+1) wx (by omega) (by omega))
   have HN:Hid (C+bp y (k+1)=N+d - 1+bI y (((k+1:Nat):Int)+1)):=by
    show _=_
    rw [HC.out,show (((k+1:Nat):Int)+1)=(k:Int)+1+1 by omega,eB (m:=(k:Int)+1) (by omega) (by omega)];omega
   have HB:Hid (bI y (((k+1:Nat):Int)+1)≤366):=AT (by omega) (by omega)
   have l1:=dN y (k+1)
   have l2:=dO y (k+1)
   generalize bp y (k+1)=l at *
   have hlt':(k:Int)<m - 1:=by omega
   go_wp2_with (go_at_call 211;refine (H.out _).mono ?_;rintro e w' ⟨rfl,rfl⟩)
   go_round
   case rel=>exact⟨k+1,C+l,by omega,by omega,by have:=HN.out;have:=HB.out;omega,by go_num,rfl,HN⟩
   case measure=>simp [intOf];omega
  ·have hm:m=(k:Int)+1:=by omega
   have HR:Hid (C=R):=by show _=_;rw [HC.out,HD.out,hm]
   have hge:¬ (k:Int)<m - 1:=by omega
   clear HC HD hm
   go_wp2_with fail
   go_ret2
   obtain rfl:=HR.out
   exact⟨rfl,rfl⟩

theorem Lg (y m d:Int) (w:World) (h:¬ okD y m d) :
  Calls Tryz.prog 184 #[.int .i64 y,.int .i64 m,.int .i64 d] w fun e w'=>e=.returned (.tuple #[.int .i64 0,.int .i64 50])∧w'=w:=by
 by_cases hy:ymB y m
 ·have HL:=hideS (fQ y m w hy)
  obtain⟨h1,h2,h3,h4⟩:=hy
  unfold okD at h
  have l1:=dN y m
  generalize bp y m=L at *
  rcases (show d<1∨(1≤d∧L<d) by omega) with hd | ⟨hd,hd'⟩
  all_goals
   clear h
   go_enter Tryz.func184,Tryz.ntmps184
   go_wp2_with (go_at_call 210;refine HL.out.mono ?_;rintro e w' ⟨rfl,rfl⟩)
   go_ret2
   exact⟨rfl,rfl⟩
 ·have HL:=hideS (jj y m w hy)
  clear hy h
  go_enter Tryz.func184,Tryz.ntmps184
  go_wp2_with (go_at_call 210;refine HL.out.mono ?_;rintro e w' ⟨rfl,rfl⟩)
  go_ret2
  exact⟨rfl,rfl⟩
end Go.Proofs.YtcmbfflemoccmaaGreat
namespace Go.Proofs.YtcmbfflemoccmaaGreat
open Go.RowKit

theorem oc {y:Int} (h:leapB y=true):lpI y=1:=by unfold lpI;rw [h];rfl
theorem lz {y:Int} (h:leapB y=false):lpI y=0:=by unfold lpI;rw [h];rfl

set_option maxHeartbeats 800000 in
theorem lA (y m d:Int) (w:World) (h:okD y m d) :
  Calls Tryz.prog 137 #[.int .i64 y,.int .i64 m,.int .i64 d] w fun e w'=>e=.returned (.tuple #[.int .i64 (ay y m d),.int .i64 0])∧w'=w:=by
 obtain⟨h1,h2,h3,h4,h5,h6⟩:=h
 have HL:=hideS (gj y m w ⟨h1,h2,h3,h4⟩)
 have hl:=dO y m
 have HLen:=hideS (fun (k:Int) (wx:World) (a:1≤k) (b:k≤12)=>gi y k wx a b)
 have HD:Hid (ay y m d=d - 1+nyI y+bI y m):=by show _=_;unfold ay;omega
 have n2:nyI y≤110000:=by have:=lv h1;omega
 obtain⟨R,hR⟩:∃ R,ay y m d=R:=⟨_,rfl⟩
 rw [hR] at HD ⊢
 clear hR
 obtain⟨L,hL⟩:∃ L,bp y m=L:=⟨_,rfl⟩
 rw [hL] at HL h6 hl
 clear hL
 have HN2:=hideS n2
 clear n2
 go_enter Tryz.func137,Tryz.ntmps137
 go_wp2_with (go_at_call 172;refine HL.out.mono ?_;rintro e w' ⟨rfl,rfl⟩)
 clear HL
 go_loop [11,10] (fun i n=>∃ (j C:Int),1900≤j∧j≤y∧0≤C∧C≤200000∧i=.int .i64 j∧n=.int .i64 C∧Hid (C=d - 1+nyI j)) (fun i _=>(y - intOf i).toNat)
 case atStart=>exact⟨1900,d - 1,by omega,by omega,by omega,by omega,rfl,rfl,by show _=_;rw [jh];omega⟩
 case round=>
  obtain⟨j,C,hj1,hj2,hC0,hC1,rfl,rfl,HC⟩:=hrel
  by_cases hlt:j<y
  ·have HS:Hid (C+365+lpI j=d - 1+nyI (j+1)):=by
    show _=_
    rw [HC.out,dU hj1];omega
   have HB:Hid (nyI (j+1)≤110000):=by
    have:=ch (y:=j+1) (z:=y) (by omega) (by omega)
    have:=HN2.out
    show _≤_
    omega
   cases hl:leapB j
   ·rw [lz hl] at HS
    go_wp2_with (go_at_call 138;refine (cA _ _).mono ?_;rintro e w' ⟨rfl,rfl⟩)
    go_round
    case rel=>exact⟨j+1,C+365,by omega,by omega,by omega,by have:=HS.out;have:=HB.out;omega,rfl,rfl,by have:=HS.out;show _=_;omega⟩
    case measure=>simp [intOf];omega
   ·rw [oc hl] at HS
    go_wp2_with (go_at_call 138;refine (cA _ _).mono ?_;rintro e w' ⟨rfl,rfl⟩)
    go_round
    case rel=>exact⟨j+1,C+365+1,by omega,by omega,by omega,by have:=HS.out;have:=HB.out;omega,rfl,rfl,HS⟩
    case measure=>simp [intOf];omega
  ·obtain rfl:j=y:=by omega
   go_wp2_with fail
   go_loop [12,10] (fun i n=>∃ (k:Nat) (C:Int),1≤k∧(k:Int)≤m∧0≤C∧C≤200000∧i=.int .i64 k∧n=.int .i64 C∧Hid (C=d - 1+nyI j+bI j k)) (fun i _=>(m - intOf i).toNat)
   case atStart=>exact⟨1,C,by omega,by omega,by omega,by omega,rfl,rfl,by show _=_;rw [show (((1:Nat):Int))=1 by rfl,cF,HC.out];omega⟩
   case round=>
    clear HC hC0 hC1
    obtain⟨k,C,hk1,hk,hC0,hC1,rfl,rfl,HC⟩:=hrel
    by_cases hlt:(k:Int)<m
    ·have H:=hideS (fun wx=>HLen.out k wx (by omega) (by omega))
     have HN:Hid (C+bp j k=d - 1+nyI j+bI j ((k+1:Nat):Int)):=by
      show _=_
      rw [HC.out,show (((k+1:Nat):Int))=(k:Int)+1 by omega,eB (m:=(k:Int)) (by omega) (by omega)];omega
     have HB:Hid (bI j (((k+1:Nat):Int))≤366):=AT (by omega) (by omega)
     have l1:=dN j k
     have l2:=dO j k
     generalize bp j k=l at *
     go_wp2_with (go_at_call 171;refine (H.out _).mono ?_;rintro e w' ⟨rfl,rfl⟩)
     go_round
     case rel=>exact⟨k+1,C+l,by omega,by omega,by omega,by have:=HN.out;have:=HB.out;have:=HN2.out;omega,by go_num,rfl,HN⟩
     case measure=>simp [intOf];omega
    ·have hm:m=(k:Int):=by omega
     have HR:Hid (C=R):=by show _=_;rw [HC.out,HD.out,hm]
     clear HC HD hm
     go_wp2_with fail
     go_ret2
     obtain rfl:=HR.out
     exact⟨rfl,rfl⟩

theorem sS (y m d:Int) (w:World) (h:¬ okD y m d) :
  Calls Tryz.prog 137 #[.int .i64 y,.int .i64 m,.int .i64 d] w fun e w'=>e=.returned (.tuple #[.int .i64 0,.int .i64 50])∧w'=w:=by
 by_cases hy:ymB y m
 ·have HL:=hideS (gj y m w hy)
  obtain⟨h1,h2,h3,h4⟩:=hy
  unfold okD at h
  have l1:=dN y m
  generalize bp y m=L at *
  rcases (show d<1∨(1≤d∧L<d) by omega) with hd | ⟨hd,hd'⟩
  all_goals
   clear h
   go_enter Tryz.func137,Tryz.ntmps137
   go_wp2_with (go_at_call 172;refine HL.out.mono ?_;rintro e w' ⟨rfl,rfl⟩)
   go_ret2
   exact⟨rfl,rfl⟩
 ·have HL:=hideS (qp y m w hy)
  clear hy h
  go_enter Tryz.func137,Tryz.ntmps137
  go_wp2_with (go_at_call 172;refine HL.out.mono ?_;rintro e w' ⟨rfl,rfl⟩)
  go_ret2
  exact⟨rfl,rfl⟩
end Go.Proofs.YtcmbfflemoccmaaGreat
namespace Go.Proofs.YtcmbfflemoccmaaGreat
open Go.RowKit

theorem gK {y m:Int} (h:ymB y m) (d:Int) (h1:1≤d) (h2:d≤28):okD y m d:=by
 obtain⟨a,b,c,e⟩:=h
 have:=dN y m
 exact⟨a,b,c,e,h1,by omega⟩
def dg (y:Int):Int:=ay y (eaT y / 31) (eaT y % 31+1)

structure EaW (y a b c d e f g h i k l m t:Int):Prop where
 fa:y % 19=a
 fb:y / 100=b
 fc:y % 100=c
 fd:b / 4=d
 fe:b % 4=e
 ff:(b+8) / 25=f
 fg:(b - f+1) / 3=g
 fh:(19*a+b - d - g+15) % 30=h
 fi:c / 4=i
 fk:c % 4=k
 fl:(32+2*e+2*i - h - k) % 7=l
 fm:(a+11*h+22*l) / 451=m
 ft:h+l - 7*m+114=t
theorem IM (y:Int):∃ a b c d e f g h i k l m,EaW y a b c d e f g h i k l m (eaT y):=
 ⟨_,_,_,_,_,_,_,_,_,_,_,_,⟨rfl,rfl,rfl,rfl,rfl,rfl,rfl,rfl,rfl,rfl,rfl,rfl,rfl⟩⟩

set_option maxHeartbeats 800000 in
theorem yw (y:Int) (w:World) (h0:1900≤y) (h1:y≤2199) :
  Calls Tryz.prog 267 #[.int .i64 y] w fun e w'=>e=.returned (.tuple #[.int .i64 (eaT y / 31),.int .i64 (eaT y % 31+1)])∧w'=w:=by
 obtain⟨a,b,c,d,e,f,g,h,i,k,l,m,H⟩:=IM y
 have t0:=(jX h0 h1).pos
 have t1:=(jX h0 h1).small
 generalize eaT y=t at *
 obtain⟨ea,eb,ec,ed,ee,ef,eg,eh,ei,ek,el,em,et⟩:=H
 have a0:0≤a∧a≤18:=by omega
 have b0:19≤b∧b≤21:=by omega
 have c0:0≤c∧c≤99:=by omega
 have d0:0≤d∧d≤5:=by omega
 have e0:0≤e∧e≤3:=by omega
 have f0:0≤f∧f≤2:=by omega
 have g0:0≤g∧g≤8:=by omega
 have hx:0≤h∧h≤29:=by omega
 have i0:0≤i∧i≤24:=by omega
 have k0:0≤k∧k≤3:=by omega
 have l0:0≤l∧l≤6:=by omega
 have m0:0≤m∧m≤2:=by omega
 obtain⟨a0,a1⟩:=a0
 obtain⟨b0,b1⟩:=b0
 obtain⟨c0,c1⟩:=c0
 obtain⟨d0,d1⟩:=d0
 obtain⟨e0,e1⟩:=e0
 obtain⟨f0,f1⟩:=f0
 obtain⟨g0,g1⟩:=g0
 obtain⟨hx,hx1⟩:=hx
 obtain⟨i0,i1⟩:=i0
 obtain⟨k0,k1⟩:=k0
 obtain⟨l0,l1⟩:=l0
 obtain⟨m0,m1⟩:=m0
 go_enter Tryz.func267,Tryz.ntmps267
 go_wp2_with fail
 go_ret2
 exact⟨rfl,rfl⟩

theorem EM (y:Int) (w:World) (h0:1900≤y) (h1:y≤2199) :
  Calls Tryz.prog 266 #[.int .i64 y] w fun e w'=>e=.returned (.tuple #[.int .i64 (dg y),.int .i64 0])∧w'=w:=by
 have HY:Hid (∀ w,Calls Tryz.prog 232 #[.int .i64 y] w fun e w'=>e=.returned (.bool true)∧w'=w):=fun w=>by
  have hy:=fP y w
  rw [decide_eq_true (⟨h0,h1⟩:1900≤y∧y≤2199)] at hy;exact hy
 have HE:=hideS (yw y w h0 h1)
 have HO:=hideS (mC y (eaT y / 31) (eaT y % 31+1) w (jX h0 h1).ok)
 unfold dg
 generalize ay y (eaT y / 31) (eaT y % 31+1)=R at *
 generalize eaT y / 31=M at *
 generalize eaT y % 31+1=D at *
 go_enter Tryz.func266,Tryz.ntmps266
 go_wp2_with (first | (go_at_call 232;refine (HY.out _).mono ?_;rintro e w' ⟨rfl,rfl⟩) | (go_at_call 267;refine HE.out.mono ?_;rintro e w' ⟨rfl,rfl⟩) | (go_at_call 184;refine HO.out.mono ?_;rintro e w' ⟨rfl,rfl⟩))
 go_ret2
 exact⟨rfl,rfl⟩
theorem AU (y:Int) (w:World) (h:¬ (1900≤y∧y≤2199)) :
  Calls Tryz.prog 266 #[.int .i64 y] w fun e w'=>e=.returned (.tuple #[.int .i64 0,.int .i64 50])∧w'=w:=by
 have HY:Hid (∀ w,Calls Tryz.prog 232 #[.int .i64 y] w fun e w'=>e=.returned (.bool false)∧w'=w):=fun w=>by
  have hy:=fP y w
  rw [decide_eq_false h] at hy;exact hy
 clear h
 go_enter Tryz.func266,Tryz.ntmps266
 go_wp2_with (go_at_call 232;refine (HY.out _).mono ?_;rintro e w' ⟨rfl,rfl⟩)
 go_ret2
 exact⟨rfl,rfl⟩

set_option maxHeartbeats 1600000 in
theorem uR (y:Int) (w:World) (h0:1900≤y) (h1:y≤2199) :
  Calls Tryz.prog 223 #[.int .i64 y] w fun e w'=>e=.returned (.tuple #[.int .i64 (dg y),.int .i64 0])∧w'=w:=by
 have HO:=hideS (lA y (eaT y / 31) (eaT y % 31+1) w (jX h0 h1).ok)
 unfold dg
 generalize ay y (eaT y / 31) (eaT y % 31+1)=R at *
 obtain⟨a,b,c,d,e,f,g,h,i,k,l,m,H⟩:=IM y
 have t0:=(jX h0 h1).pos
 have t1:=(jX h0 h1).small
 generalize eaT y=t at *
 obtain⟨ea,eb,ec,ed,ee,ef,eg,eh,ei,ek,el,em,et⟩:=H
 have a0:0≤a∧a≤18:=by omega
 have b0:19≤b∧b≤21:=by omega
 have c0:0≤c∧c≤99:=by omega
 have d0:0≤d∧d≤5:=by omega
 have e0:0≤e∧e≤3:=by omega
 have f0:0≤f∧f≤2:=by omega
 have g0:0≤g∧g≤8:=by omega
 have hx:0≤h∧h≤29:=by omega
 have i0:0≤i∧i≤24:=by omega
 have k0:0≤k∧k≤3:=by omega
 have l0:0≤l∧l≤6:=by omega
 have m0:0≤m∧m≤2:=by omega
 obtain⟨a0,a1⟩:=a0
 obtain⟨b0,b1⟩:=b0
 obtain⟨c0,c1⟩:=c0
 obtain⟨d0,d1⟩:=d0
 obtain⟨e0,e1⟩:=e0
 obtain⟨f0,f1⟩:=f0
 obtain⟨g0,g1⟩:=g0
 obtain⟨hx,hx1⟩:=hx
 obtain⟨i0,i1⟩:=i0
 obtain⟨k0,k1⟩:=k0
 obtain⟨l0,l1⟩:=l0
 obtain⟨m0,m1⟩:=m0
 go_enter Tryz.func223,Tryz.ntmps223
 go_wp2_with (go_at_call 137;refine HO.out.mono ?_;rintro e w' ⟨rfl,rfl⟩)
 go_ret2
 exact⟨rfl,rfl⟩
end Go.Proofs.YtcmbfflemoccmaaGreat
namespace Go.Proofs.YtcmbfflemoccmaaGreat
open Go.RowKit

theorem AW {W n:Int} {u d u' d':Nat} (h:Ups W n u d) (h':Ups W n u' d'):u=u'∧d=d':=by
 constructor
 ·rcases Nat.lt_trichotomy u u' with e | e | e
  ·have:=h'.uo u e;rw [h.uf] at this;exact Bool.noConfusion this
  ·exact e
  ·have:=h.uo u' e;rw [h'.uf] at this;exact Bool.noConfusion this
 ·rcases Nat.lt_trichotomy d d' with e | e | e
  ·have:=h'.dn d e;rw [h.df] at this;exact Bool.noConfusion this
  ·exact e
  ·have:=h.dn d' e;rw [h'.df] at this;exact Bool.noConfusion this
open Classical in
noncomputable def mvI (W n mv:Int):Int:=if h:∃ p:Nat×Nat,Ups W n p.1 p.2 then bL W n mv h.choose.1 h.choose.2 else n
theorem nj {W n mv:Int} {u d:Nat} (h:Ups W n u d):mvI W n mv=bL W n mv u d:=by
 have hx:∃ p:Nat×Nat,Ups W n p.1 p.2:=⟨(u,d),h⟩
 unfold mvI
 rw [dif_pos hx]
 have e:=AW hx.choose_spec h
 rw [e.1,e.2]
def gL (m:Int):Int:=if m=2 then 29 else if m=4∨m=6∨m=9∨m=11 then 30 else 31
def bA (r:Rul):Bool:=
 if r.kind=4 then decide (r.mon=0∧r.nth=0∧r.wd=0∧r.off=0∧r.fr=0∧r.to=0∧r.mv=0∧0≤r.day∧r.day≤109572)
 else decide (1900≤r.fr∧r.fr≤2199∧r.fr≤r.to∧r.to≤2199∧0≤r.mv∧r.mv≤2)&&
  (if r.kind=1 then decide (r.nth=0∧r.wd=0∧r.off=0∧1≤r.mon∧r.mon≤12∧1≤r.day∧r.day≤gL r.mon)
  else if r.kind=2 then decide (r.day=0∧r.off=0∧1≤r.mon∧r.mon≤12∧0≤r.wd∧r.wd≤6∧1≤r.nth∧r.nth≤5)
  else if r.kind=3 then decide (r.mon=0∧r.day=0∧r.nth=0∧r.wd=0∧-100≤r.off∧r.off≤100) else false)
theorem fit_cases {r:Rul} (h:bA r=true) :
  (r.kind=4∧0≤r.day∧r.day≤109572∧r.mv=0)∨
  ((1900≤r.fr∧r.fr≤r.to∧r.to≤2199∧0≤r.mv∧r.mv≤2)∧
   ((r.kind=1∧1≤r.mon∧r.mon≤12∧1≤r.day∧r.day≤gL r.mon)∨(r.kind=2∧1≤r.mon∧r.mon≤12∧0≤r.wd∧r.wd≤6∧1≤r.nth∧r.nth≤5)∨(r.kind=3∧-100≤r.off∧r.off≤100))):=by
 unfold bA at h
 by_cases k4:r.kind=4
 ·rw [if_pos k4,decide_eq_true_eq] at h
  exact Or.inl ⟨k4,h.2.2.2.2.2.2.2.1,h.2.2.2.2.2.2.2.2,h.2.2.2.2.2.2.1⟩
 ·rw [if_neg k4,Bool.and_eq_true,decide_eq_true_eq] at h
  obtain⟨⟨a,b,c,d,e,f⟩,h⟩:=h
  refine Or.inr ⟨⟨a,c,d,e,f⟩,?_⟩
  by_cases k1:r.kind=1
  ·rw [if_pos k1,decide_eq_true_eq] at h
   exact Or.inl ⟨k1,h.2.2.2⟩
  ·rw [if_neg k1] at h
   by_cases k2:r.kind=2
   ·rw [if_pos k2,decide_eq_true_eq] at h
    exact Or.inr (Or.inl ⟨k2,h.2.2⟩)
   ·rw [if_neg k2] at h
    by_cases k3:r.kind=3
    ·rw [if_pos k3,decide_eq_true_eq] at h
     exact Or.inr (Or.inr ⟨k3,h.2.2.2.2⟩)
    ·rw [if_neg k3] at h;exact Bool.noConfusion h
open Classical in
noncomputable def gM (r:Rul) (y:Int):Option Int:=
 if y<r.fr∨r.to<y then none
 else if r.kind=1 then (if okD y r.mon r.day then some (ay y r.mon r.day) else none)
 else if r.kind=2 then some (mB y r.mon r.wd r.nth)
 else if r.kind=3 then some (dg y+r.off) else some 0
noncomputable def fR (W:Int) (r:Rul) (y:Int):Option Int:=(gM r y).map (fun n=>mvI W n r.mv)
noncomputable def qr (W:Int) (r:Rul) (n Y:Int):Bool:=
 if r.kind=4 then r.day==n else fR W r (Y - 1)==some n||fR W r Y==some n||fR W r (Y+1)==some n
noncomputable def mD (W:Int) (rs:List Rul) (n Y:Int):Bool:=rs.any fun r=>qr W r n Y
theorem CC {y m wd k:Int} (h:ymB y m) (_d0:0≤wd) (_d1:wd≤6) (k1:1≤k) (k5:k≤5):0≤mB y m wd k∧mB y m wd k≤110000:=by
 obtain⟨f0,f1⟩:=(iD (gK h 1 (by omega) (by omega))).range
 have l0:=dN y m
 show 0≤(if k=5∧ay y m 1+bp y m≤ay y m 1+(wd - ay y m 1) % 7+7*(k - 1) then ay y m 1+(wd - ay y m 1) % 7+7*(k - 1) - 7 else ay y m 1+(wd - ay y m 1) % 7+7*(k - 1))∧(if k=5∧ay y m 1+bp y m≤ay y m 1+(wd - ay y m 1) % 7+7*(k - 1) then ay y m 1+(wd - ay y m 1) % 7+7*(k - 1) - 7 else ay y m 1+(wd - ay y m 1) % 7+7*(k - 1))≤110000
 split<;>omega
end Go.Proofs.YtcmbfflemoccmaaGreat
namespace Go.Proofs.YtcmbfflemoccmaaGreat
open Go.RowKit

def dh:Rul:=⟨0,0,0,0,0,0,0,0,0⟩
structure RCells (w:World) (b o:Nat) (r:Rul):Prop where
 c0:w.cell? ⟨b,o,none⟩=some (.int .i64 r.kind)
 c1:w.cell? ⟨b,o+1,none⟩=some (.int .i64 r.mon)
 c2:w.cell? ⟨b,o+2,none⟩=some (.int .i64 r.day)
 c3:w.cell? ⟨b,o+3,none⟩=some (.int .i64 r.nth)
 c4:w.cell? ⟨b,o+4,none⟩=some (.int .i64 r.wd)
 c5:w.cell? ⟨b,o+5,none⟩=some (.int .i64 r.off)
 c6:w.cell? ⟨b,o+6,none⟩=some (.int .i64 r.fr)
 c7:w.cell? ⟨b,o+7,none⟩=some (.int .i64 r.to)
 c8:w.cell? ⟨b,o+8,none⟩=some (.int .i64 r.mv)
theorem RCells.below {w w':World} {B b o:Nat} {r:Rul} (h:RCells w b o r) (hb:Below B w w') (hB:b<B):RCells w' b o r:=
 ⟨(hb.cell (p:=⟨b,o,none⟩) hB).trans h.c0,(hb.cell (p:=⟨b,o+1,none⟩) hB).trans h.c1,(hb.cell (p:=⟨b,o+2,none⟩) hB).trans h.c2,(hb.cell (p:=⟨b,o+3,none⟩) hB).trans h.c3,(hb.cell (p:=⟨b,o+4,none⟩) hB).trans h.c4,(hb.cell (p:=⟨b,o+5,none⟩) hB).trans h.c5,(hb.cell (p:=⟨b,o+6,none⟩) hB).trans h.c6,(hb.cell (p:=⟨b,o+7,none⟩) hB).trans h.c7,(hb.cell (p:=⟨b,o+8,none⟩) hB).trans h.c8⟩
structure RSrc (w:World) (p:Option Addr) (b off:Nat) (rs:List Rul):Prop where
 at_:0<rs.length→p=some ⟨b,off,none⟩
 lt:0<rs.length→b<w.heap.size
 cell:∀ i,i<rs.length→RCells w b (off+i*9) (rs.getD i dh)
theorem RSrc.below {w w':World} {p:Option Addr} {b off:Nat} {rs:List Rul} (h:RSrc w p b off rs) (hb:Below w.heap.size w w'):RSrc w' p b off rs:=
 ⟨h.at_,fun hx=>Nat.lt_of_lt_of_le (h.lt hx) hb.size,fun j hj=>(h.cell j hj).below hb (h.lt (by omega))⟩
end Go.Proofs.YtcmbfflemoccmaaGreat
namespace Go.Proofs.YtcmbfflemoccmaaGreat
open Go.RowKit

open Classical in
noncomputable def yrI (n:Int):Int:=if h:∃ y m d,IsD n y m d then h.choose else 0
theorem qs {n y m d:Int} (h:IsD n y m d):yrI n=y:=by
 have hx:∃ y m d,IsD n y m d:=⟨y,m,d,h⟩
 unfold yrI
 rw [dif_pos hx]
 obtain⟨m',d',h'⟩:=hx.choose_spec
 exact (h'.unique h).1
noncomputable def opB (W:Int) (rs:List Rul) (n:Int):Bool:=!cz W n&&!mD W rs n (yrI n)
def aj (n:Int):Prop:=0≤n∧n≤109572
instance (n:Int):Decidable (aj n):=by unfold aj;infer_instance
structure OkC (W:Int) (rs:List Rul):Prop where
 len:rs.length≤64
 w0:0≤W
 w1:W≤126
 fit:∀ r ∈ rs,bA r=true
inductive ChkR (W:Int) (rs:List Rul):Int→Int→Prop where
 | long:64<rs.length→ChkR W rs 2 0
 | week:rs.length≤64→¬ (0≤W∧W≤126)→ChkR W rs 60 (-1)
 | rule (k:Nat):rs.length≤64→(0≤W∧W≤126)→k<rs.length→bA (rs.getD k dh)=false→(∀ j<k,bA (rs.getD j dh)=true)→ChkR W rs 60 k
 | ok:OkC W rs→ChkR W rs 0 0
theorem lC {rs:List Rul} {k:Nat} (h:k<rs.length):rs.getD k dh ∈ rs:=by
 rw [List.getD_eq_getElem?_getD,List.getElem?_eq_getElem h];exact List.getElem_mem h
theorem yx {rs:List Rul} {p:Rul→Bool} (h:∀ j<rs.length,p (rs.getD j dh)=true):∀ r ∈ rs,p r=true:=fun r hr=>by
 obtain⟨j,hj,rfl⟩:=List.getElem_of_mem hr
 have:=h j hj
 rw [List.getD_eq_getElem?_getD,List.getElem?_eq_getElem hj] at this
 exact this
theorem Nf (W:Int) (rs:List Rul):∃ A B,ChkR W rs A B:=by
 by_cases h1:64<rs.length
 ·exact⟨_,_,.long h1⟩
 ·by_cases h2:0≤W∧W≤126
  ·by_cases h3:∃ k≤rs.length,(fun j=>decide (j=rs.length)||bA (rs.getD j dh)) k=false
   ·obtain⟨k,hk,a,b⟩:=yu (p:=fun j=>decide (j=rs.length)||bA (rs.getD j dh)) rs.length h3
    simp only [Bool.or_eq_false_iff,decide_eq_false_iff_not] at a
    refine⟨_,_,.rule k (by omega) h2 (by omega) a.2 (fun j hj=>?_)⟩
    have:=b j hj
    simp only [Bool.or_eq_true,decide_eq_true_eq] at this
    rcases this with e | e
    ·omega
    ·exact e
   ·refine⟨_,_,.ok ⟨by omega,h2.1,h2.2,yx fun j hj=>?_⟩⟩
    cases hf:bA (rs.getD j dh)
    ·exact absurd ⟨j,by omega,by simp only [hf,Bool.or_false,decide_eq_false_iff_not];omega⟩ h3
    ·rfl
  ·exact⟨_,_,.week (by omega) h2⟩
theorem IN {W:Int} {rs:List Rul} {B:Int} (h:ChkR W rs 0 B):OkC W rs∧B=0:=by
 cases h with
 | ok h=>exact⟨h,rfl⟩
open Classical in
noncomputable def moI (n:Int):Int:=if h:∃ k,∃ y m d,IsD n y m d∧k=12*y+m then h.choose else 0
theorem NQ {n y m d:Int} (h:IsD n y m d):moI n=12*y+m:=by
 have hx:∃ k,∃ y m d,IsD n y m d∧k=12*y+m:=⟨_,y,m,d,h,rfl⟩
 unfold moI
 rw [dif_pos hx]
 obtain⟨y',m',d',h',e⟩:=hx.choose_spec
 obtain⟨e1,e2,_⟩:=h'.unique h
 rw [e,e1,e2]

def cntN (op:Int→Bool) (a:Int):Nat→Nat
 | 0=>0
 | k+1=>cntN op a k+(if op (a+k) then 1 else 0)
theorem AX (op:Int→Bool) (a:Int) (k:Nat):cntN op a k≤k:=by
 induction k with
 | zero=>exact Nat.le_refl _
 | succ k ih=>show cntN op a k+(if op (a+k) then 1 else 0)≤k+1;split<;>omega

end Go.Proofs.YtcmbfflemoccmaaGreat
namespace Go.Proofs.YtcmbfflemoccmaaGreat
open Go.RowKit

def iM (kind ya ma da yb mb db:Int):Int:=360*(yb - ya)+30*(mb - ma)+(if kind=5∨min da 30=30 then min db 30 else db) - min da 30
def cI (y n:Int):Int:=133590*(y - 1900)+(n - nyI y)*(366 - lpI y)
theorem IO {y:Int} (h:1900≤y):cI y (nyI (y+1))=cI (y+1) (nyI (y+1)):=by
 unfold cI
 rw [dU h]
 rcases lp_cases y with e | e<;>rw [e]<;>simp<;>omega
theorem Lh (y a n:Int):cI y (a+n)=cI y a+(366 - lpI y)*n:=by
 unfold cI
 rw [show a+n - nyI y=(a - nyI y)+n by omega,Int.add_mul,Int.mul_comm n]
 omega
theorem uS {y n:Int} (h:1900≤y) (h':y≤2200) (h0:nyI y≤n) (h1:n≤nyI (y+1)):0≤cI y n∧cI y n≤50000000:=by
 unfold cI
 rw [dU h] at h1
 rcases lp_cases y with e | e<;>rw [e] at h1 ⊢<;>constructor<;>omega
end Go.Proofs.YtcmbfflemoccmaaGreat
namespace Go.Proofs.YtcmbfflemoccmaaGreat
open Go.RowKit

def yz (y m d:Int):Value:=.agg #[.int .i64 y,.int .i64 m,.int .i64 d]

set_option maxHeartbeats 1600000 in
theorem jI (n y m d:Int) (w:World) (h:IsD n y m d) :
  Calls Tryz.prog 136 #[.int .i64 n] w fun e w'=>e=.returned (.tuple #[yz y m d,.int .i64 0])∧Below w.heap.size w w':=by
 obtain⟨n0,n1⟩:=h.range
 obtain⟨a,b⟩:=h.year
 obtain⟨a',b'⟩:=h.month
 have hd:n - nyI y - bI y m+1=d:=by have:=h.2;unfold ay at this;omega
 obtain⟨h1,h2,h3,h4,_,_⟩:=h.1
 clear h
 have HA:=hideS a
 have HB:=hideS b
 have HA':=hideS a'
 have HB':=hideS b'
 have HD:=hideS hd
 clear a b a' b' hd
 have HLen:=hideS (fun (k:Int) (wx:World) (a:1≤k) (b:k≤12)=>gi y k wx a b)
 unfold yz
 go_enter Tryz.func136,Tryz.ntmps136
 go_wp2_with fail
 go_loop [0,4,5] (fun c i _=>∃ (j C:Int),1900≤j∧j≤y∧0≤C∧C≤110000∧i=.int .i64 j∧c=.int .i64 C∧Hid (C=n - nyI j)) (fun _ i _=>(y - intOf i).toNat)
 case atStart=>exact⟨1900,n,by omega,by omega,by omega,by omega,rfl,rfl,by show _=_;rw [jh];omega⟩
 case round=>
  obtain⟨j,C,hj1,hj2,hC0,hC1,rfl,rfl,HC⟩:=hrel
  by_cases hlt:j<y
  ·have HS:Hid (C - 365 - lpI j=n - nyI (j+1)):=by
    show _=_
    rw [HC.out,dU hj1];omega
   have HP:Hid (0≤C - 365 - lpI j):=by
    show _≤_
    rw [HS.out]
    have:=ch (y:=j+1) (z:=y) (by omega) (by omega)
    have:=HA.out
    omega
   cases hl:leapB j
   ·rw [lz hl] at HS HP
    have hge:¬ C<365:=by have:=HP.out;omega
    go_wp2_with (go_at_call 138;refine (cA _ _).mono ?_;rintro e w' ⟨rfl,rfl⟩)
    go_round
    case rel=>exact⟨j+1,C - 365,by omega,by omega,by omega,by omega,rfl,rfl,by have:=HS.out;show _=_;omega⟩
    case measure=>simp [intOf];omega
   ·rw [oc hl] at HS HP
    have hge:¬ C<366:=by have:=HP.out;omega
    go_wp2_with (go_at_call 138;refine (cA _ _).mono ?_;rintro e w' ⟨rfl,rfl⟩)
    go_round
    case rel=>exact⟨j+1,C - 366,by omega,by omega,by omega,by omega,rfl,rfl,by have:=HS.out;show _=_;omega⟩
    case measure=>simp [intOf];omega
  ·obtain rfl:j=y:=by omega
   have HP:Hid (C<365+lpI j):=by
    have:=HB.out
    rw [dU hj1] at this
    have:=HC.out
    show _<_
    omega
   cases hl:leapB j
   all_goals
    first | rw [lz hl] at HP | rw [oc hl] at HP
    have hlt:C<365∨C<366:=Or.inr (by have:=HP.out;omega)
    clear hlt
    have hlt:=HP.out
    first | (have hlt:C<365:=by omega) | (have hlt:C<366:=by omega)
    go_wp2_with (go_at_call 138;refine (cA _ _).mono ?_;rintro e w' ⟨rfl,rfl⟩)
    clear hlt HP
    go_loop [0,6] (fun c i=>∃ (k C:Int),1≤k∧k≤m∧0≤C∧C≤110000∧i=.int .i64 k∧c=.int .i64 C∧Hid (C=n - nyI j - bI j k)) (fun _ i=>(m - intOf i).toNat)
    case atStart=>exact⟨1,C,by omega,by omega,by omega,by omega,rfl,rfl,by show _=_;rw [cF,HC.out];omega⟩
    case round=>
     clear HC hC0 hC1
     obtain⟨k,C,hk1,hk,hC0,hC1,rfl,rfl,HC⟩:=hrel
     have H:=hideS (fun wx=>HLen.out k wx (by omega) (by omega))
     have HS:Hid (bI j (k+1)=bI j k+bp j k):=eB (by omega) (by omega)
     have l1:=dN j k
     by_cases hlt:k<m
     ·have hge:bp j k≤C:=by
       have:=fO (y:=j) (m:=k+1) (k:=m) (by omega) (by omega) (by omega)
       have:=HS.out
       have:=HC.out
       have:=HA'.out
       omega
      have HC':Hid (C - bp j k=n - nyI j - bI j (k+1)):=by
       show _=_
       rw [HS.out,HC.out];omega
      generalize bp j k=l at *
      go_wp2_with (go_at_call 171;refine (H.out _).mono ?_;rintro e w' ⟨rfl,rfl⟩)
      go_round
      case rel=>exact⟨k+1,C - l,by omega,by omega,by omega,by omega,rfl,rfl,HC'⟩
      case measure=>simp [intOf];omega
     ·obtain rfl:k=m:=by omega
      have hge:¬ bp j k≤C:=by
       have:=HB'.out
       rw [HS.out] at this
       have:=HC.out
       omega
      have HE:Hid (C+1=d):=by
       show _=_
       rw [← HD.out,HC.out]
      clear HC HD
      generalize bp j k=l at *
      go_wp2_with (go_at_call 171;refine (H.out _).mono ?_;rintro e w' ⟨rfl,rfl⟩)
      obtain rfl:=HE.out
      (try simp only [Exit.inBlock,Exit.then])
      refine bodyPost_ret (v:=.tuple #[.agg #[.int .i64 j,.int .i64 k,.int .i64 (C+1)],.int .i64 0]) (by simp [results,Tryz.results136,go_sem]) rfl ⟨rfl,?_⟩
      exact ((Below.refl w.heap.size w).alloc (Nat.le_refl _) _)
end Go.Proofs.YtcmbfflemoccmaaGreat
namespace Go.Proofs.YtcmbfflemoccmaaGreat
open Go.RowKit

theorem Li (n:Int):bits .and .i64 n 1=n % 2:=by
 have h1:(BitVec.ofInt 64 1).toNat=2^1 - 1:=by decide
 have key:(BitVec.ofInt 64 n&&& BitVec.ofInt 64 1).toNat=(n % ((2^64:Nat):Int)).toNat % 2^1:=by
  rw [BitVec.toNat_and,BitVec.toNat_ofInt,h1,Nat.and_two_pow_sub_one_eq_mod]
 show IntKind.i64.wrap ((BitVec.ofInt 64 n&&& BitVec.ofInt 64 1).toNat:Nat)=n % 2
 rw [key,IntKind.wrap_i64]
 omega
theorem NR (n:Int):∃ a,n.tmod 7=a∧-6≤a∧a≤6∧(a+7) % 7=n % 7:=by
 rcases Int.le_total 0 n with h | h
 ·exact⟨n % 7,Int.tmod_eq_emod_of_nonneg h,by omega,by omega,by omega⟩
 ·refine⟨-((-n) % 7),?_,by omega,by omega,by omega⟩
  have e:=Int.neg_tmod (-n) 7
  rw [Int.neg_neg] at e
  rw [e,Int.tmod_eq_emod_of_nonneg (by omega)]

set_option maxHeartbeats 400000 in
theorem qt (W n:Int) (v:Value) (w:World) :
  Calls Tryz.prog 173 #[.agg #[.int .i64 W,v],.int .i64 n] w fun e w'=>e=.returned (.bool (cz W n))∧Below w.heap.size w w':=by
 obtain⟨a,ha,a0,a1,hak0⟩:=NR n
 obtain⟨k,hk⟩:∃ k:Nat,n % 7=k:=⟨(n % 7).toNat,by omega⟩
 have hak:(a+7) % 7=(k:Int):=by omega
 have hk6:k≤6:=by omega
 have hand:=Li (W / 2^k)
 unfold cz
 rw [hk]
 have HE:Hid ((W / ((2^(((k:Nat):Int)).toNat:Nat):Int) % 2==1)=(W / 2^k % 2==1)):=by
  show _=_
  rw [Int.toNat_natCast,Int.natCast_pow];rfl
 clear hak0 hk
 rw [HE.out]
 clear HE
 go_enter Tryz.func173,Tryz.ntmps173
 go_wp2_with fail
 go_ret
 exact⟨rfl,(Below.refl w.heap.size w).alloc (Nat.le_refl _) _⟩

theorem dP {w w1:World} {W:Int} {v:Value} (hb:Below (w.heap.size+1) (w.alloc (.cells #[.int .i64 W,v] 44)) w1) :
  w1.cell? ⟨w.heap.size,0,none⟩=some (.int .i64 W)∧w1.cell? ⟨w.heap.size,1,none⟩=some v:=by
 refine⟨?_,?_⟩
 ·rw [hb.cell (p:=⟨w.heap.size,0,none⟩) (by simp)];simp
 ·rw [hb.cell (p:=⟨w.heap.size,1,none⟩) (by simp)];simp

def CBox (w:World) (W:Int) (v:Value) (wr:World):Prop:=Below (w.heap.size+1) (w.alloc (.cells #[.int .i64 W,v] 44)) wr
theorem CBox.step {w wr w':World} {W:Int} {v:Value} (h:CBox w W v wr) (hb:Below wr.heap.size wr w'):CBox w W v w':=
 h.trans (hb.mono (by have:=h.size;simp at this;omega))
theorem CBox.below {w wr:World} {W:Int} {v:Value} (h:CBox w W v wr):Below w.heap.size w wr:=
 ((Below.refl w.heap.size w).alloc (Nat.le_refl _) _).trans (h.mono (by omega))
theorem CBox.first {w w':World} {W:Int} {v:Value} (hb:Below (w.alloc (.cells #[.int .i64 W,v] 44)).heap.size (w.alloc (.cells #[.int .i64 W,v] 44)) w'):CBox w W v w':=
 hb.mono (by simp)
theorem mov_cases {n mv:Int} {u d:Nat} {R:Int} (h:(if mv=2∧(d:Int)<u then n - d else n+u)=R):(mv=2∧(d:Int)<u∧n - d=R)∨(mv=2∧¬ (d:Int)<u∧n+u=R)∨(mv≠2∧n+u=R):=by
 by_cases a:mv=2
 ·by_cases b:(d:Int)<u
  ·rw [if_pos ⟨a,b⟩] at h;exact Or.inl ⟨a,b,h⟩
  ·rw [if_neg (fun c=>b c.2)] at h;exact Or.inr (Or.inl ⟨a,b,h⟩)
 ·rw [if_neg (fun c=>a c.1)] at h;exact Or.inr (Or.inr ⟨a,h⟩)

set_option maxHeartbeats 1600000 in
theorem iE (W n mv:Int) (v:Value) (u d:Nat) (w:World) (n0: -500000≤n) (n1:n≤500000) (hu:Ups W n u d) :
  Calls Tryz.prog 224 #[.agg #[.int .i64 W,v],.int .i64 n,.int .i64 mv] w fun e w'=>e=.returned (.int .i64 (bL W n mv u d))∧Below w.heap.size w w':=by
 have HO:=hideS (fun (k:Int) (wx:World)=>qt W k v wx)
 have HU:=hideS hu
 have u6:=hu.ub
 have d6:=hu.db
 obtain⟨R,hR⟩:∃ R,bL W n mv u d=R:=⟨_,rfl⟩
 rw [hR]
 have HR:=hideS hR
 clear hR hu
 by_cases hz:mv=0
 ·have HE:Hid (n=R):=by
   show _=_
   rw [← HR.out];unfold bL;rw [if_pos (Or.inl hz)]
  go_enter Tryz.func224,Tryz.ntmps224
  go_wp2_with fail
  go_ret
  obtain rfl:=HE.out
  exact⟨rfl,(Below.refl w.heap.size w).alloc (Nat.le_refl _) _⟩
 ·have hz':(mv==0)=false:=by rw [beq_eq_false_iff_ne];exact hz
  have HOn:=hideS (fun wx=>HO.out n wx)
  cases ho:cz W n
  ·rw [ho] at HOn
   have HE:Hid (n=R):=by
    show _=_
    rw [← HR.out];unfold bL;rw [if_pos (Or.inr ho)]
   clear hz
   go_enter Tryz.func224,Tryz.ntmps224
   go_wp2_with (go_at_call 173;refine (HOn.out _).mono ?_;rintro e w1 ⟨rfl,hb1⟩)
   go_ret
   obtain rfl:=HE.out
   exact⟨rfl,((Below.refl w.heap.size w).alloc (Nat.le_refl _) _).trans (hb1.mono (by simp))⟩
  ·rw [ho] at HOn
   have HE:Hid ((if mv=2∧(d:Int)<u then n - d else n+u)=R):=by
    show _=_
    rw [← HR.out]
    show _=if mv=0∨cz W n=false then n else _
    rw [if_neg (show ¬ (mv=0∨cz W n=false) from fun a=>by
     rcases a with a | a
     ·exact hz a
     ·rw [ho] at a;exact Bool.noConfusion a)]
   clear hz ho HR
   go_enter Tryz.func224,Tryz.ntmps224
   go_wp2_with (go_at_call 173;refine (HOn.out _).mono ?_;rintro e w1 ⟨rfl,hb1⟩;have HB1:=hideS (CBox.first hb1);clear hb1)
   go_loopw [7] (fun i wr=>∃ (j:Nat) (I:Int),j≤u∧n≤I∧I≤n+6∧i=.int .i64 I∧Hid (I=n+j)∧Hid (CBox w W v wr)) (fun i _=>(n+u - intOf i).toNat)
   case atStart=>exact⟨0,n,by omega,by omega,by omega,rfl,by show _=_;omega,HB1⟩
   case round=>
    obtain⟨j,I,hj,hI0,hI1,rfl,HI,HB⟩:=hrel
    obtain⟨c0,c1⟩:=dP HB.out
    have HOi:=hideS (fun wx=>HO.out I wx)
    by_cases hlt:j<u
    ·have e1:cz W I=true:=by rw [HI.out];exact HU.out.uo j hlt
     rw [e1] at HOi
     have HIl:Hid (I<n+u):=by have:=HI.out;show _<_;omega
     clear e1
     go_wp2_with (go_at_call 173;refine (HOi.out _).mono ?_;rintro e w2 ⟨rfl,hb2⟩;have HB2:=hideS (HB.out.step hb2);clear hb2)
     go_roundw
     case rel=>exact⟨j+1,I+1,by omega,by omega,by have:=HIl.out;omega,rfl,by have:=HI.out;show _=_;omega,HB2⟩
     case measure=>have:=HIl.out;simp [intOf];omega
    ·have hju:j=u:=by omega
     have e1:cz W I=false:=by rw [HI.out,hju];exact HU.out.uf
     rw [e1] at HOi
     have HIu:Hid (I=n+u):=by have:=HI.out;show _=_;omega
     clear e1 hju hlt hj HI HB1
     go_wp2_with (go_at_call 173;refine (HOi.out _).mono ?_;rintro e w2 ⟨rfl,hb2⟩;have HB2:=hideS (HB.out.step hb2);clear hb2)
     go_loopw [8] (fun i wr=>∃ (j:Nat) (K:Int),j≤d∧n - 6≤K∧K≤n∧i=.int .i64 K∧Hid (K=n - j)∧Hid (CBox w W v wr)) (fun i _=>(intOf i - (n - d)).toNat)
     case atStart=>exact⟨0,n,by omega,by omega,by omega,rfl,by show _=_;omega,HB2⟩
     case round=>
      clear c0 c1 HB HB2 HOi
      obtain⟨j,K,hj,hK0,hK1,rfl,HK,HB⟩:=hrel
      obtain⟨c0,c1⟩:=dP HB.out
      have HOi:=hideS (fun wx=>HO.out K wx)
      by_cases hlt:j<d
      ·have e1:cz W K=true:=by rw [HK.out];exact HU.out.dn j hlt
       rw [e1] at HOi
       have HKl:Hid (n - d<K):=by have:=HK.out;show _<_;omega
       clear e1
       go_wp2_with (go_at_call 173;refine (HOi.out _).mono ?_;rintro e w2 ⟨rfl,hb2⟩;have HB2:=hideS (HB.out.step hb2);clear hb2)
       go_roundw
       case rel=>exact⟨j+1,K - 1,by omega,by have:=HKl.out;omega,by omega,rfl,by have:=HK.out;show _=_;omega,HB2⟩
       case measure=>have:=HKl.out;simp [intOf];omega
      ·have hju:j=d:=by omega
       have e1:cz W K=false:=by rw [HK.out,hju];exact HU.out.df
       rw [e1] at HOi
       have HKd:Hid (K=n - d):=by have:=HK.out;show _=_;omega
       clear e1 hju hlt hj HK
       rcases mov_cases HE.out with⟨a,b,c⟩| ⟨a,b,c⟩| ⟨a,c⟩
       ·have hlt:n - K<I - n:=by have:=HKd.out;have:=HIu.out;omega
        have HRR:Hid (K=R):=by have:=HKd.out;show _=_;omega
        clear b c HE HKd HIu
        go_wp2_with (go_at_call 173;refine (HOi.out _).mono ?_;rintro e w2 ⟨rfl,hb2⟩;have HB2:=hideS (HB.out.step hb2);clear hb2)
        go_ret
        obtain rfl:=HRR.out
        exact⟨rfl,HB2.out.below⟩
       ·have hlt:¬ n - K<I - n:=by have:=HKd.out;have:=HIu.out;omega
        have HRR:Hid (I=R):=by have:=HIu.out;show _=_;omega
        clear b c HE HKd HIu
        go_wp2_with (go_at_call 173;refine (HOi.out _).mono ?_;rintro e w2 ⟨rfl,hb2⟩;have HB2:=hideS (HB.out.step hb2);clear hb2)
        go_ret
        obtain rfl:=HRR.out
        exact⟨rfl,HB2.out.below⟩
       ·have ha:(mv==2)=false:=by rw [beq_eq_false_iff_ne];exact a
        have HRR:Hid (I=R):=by have:=HIu.out;show _=_;omega
        clear a c HE HKd HIu
        go_wp2_with (go_at_call 173;refine (HOi.out _).mono ?_;rintro e w2 ⟨rfl,hb2⟩;have HB2:=hideS (HB.out.step hb2);clear hb2)
        go_ret
        obtain rfl:=HRR.out
        exact⟨rfl,HB2.out.below⟩

set_option maxHeartbeats 800000 in
theorem AY (y m wd k:Int) (w:World) (h:ymB y m) (d0:0≤wd) (d1:wd≤6) (k1:1≤k) (k5:k≤5) :
  Calls Tryz.prog 222 #[.int .i64 y,.int .i64 m,.int .i64 wd,.int .i64 k] w fun e w'=>e=.returned (.int .i64 (mB y m wd k))∧w'=w:=by
 have HOf:=hideS (lA y m 1 w (gK h 1 (by omega) (by omega)))
 have HL:=hideS (gj y m w h)
 obtain⟨f0,f1⟩:=(iD (gK h 1 (by omega) (by omega))).range
 have l0:=dN y m
 have l1:=dO y m
 obtain⟨R,hR⟩:∃ R,mB y m wd k=R:=⟨_,rfl⟩
 rw [hR]
 have HR:Hid ((if k=5∧ay y m 1+bp y m≤ay y m 1+(wd - ay y m 1) % 7+7*(k - 1) then ay y m 1+(wd - ay y m 1) % 7+7*(k - 1) - 7 else ay y m 1+(wd - ay y m 1) % 7+7*(k - 1))=R):=hR
 clear hR h
 generalize ay y m 1=f at *
 generalize bp y m=L at *
 obtain⟨t,ht⟩:∃ t,(wd - f) % 7=t:=⟨_,rfl⟩
 rw [ht] at HR
 have HT:=hideS ht
 have t0:0≤t:=by omega
 have t1:t≤6:=by omega
 clear ht
 go_enter Tryz.func222,Tryz.ntmps222
 go_wp2_with (first | (go_at_call 137;refine HOf.out.mono ?_;rintro e w' ⟨rfl,rfl⟩) | (go_at_call 172;refine HL.out.mono ?_;rintro e w' ⟨rfl,rfl⟩))
 clear HOf HL
 go_loop [13] (fun i=>∃ (I:Int),f≤I∧I≤f+t∧i=.int .i64 I∧Hid ((I+(wd - I) % 7)=f+t)) (fun i=>(f+t - intOf i).toNat)
 case atStart=>exact⟨f,by omega,by omega,rfl,by have:=HT.out;show _=_;omega⟩
 case round=>
  obtain⟨I,hI0,hI1,rfl,HI⟩:=hrel
  by_cases hw:I % 7=wd
  ·have HIt:Hid (I=f+t):=by have:=HI.out;show _=_;omega
   by_cases ha:k=5
   ·by_cases hb:f+L≤I+7*(k - 1)
    ·have HRR:Hid (I+7*(k - 1) - 7=R):=by
      have:=HIt.out
      show _=_
      rw [← HR.out,if_pos ⟨ha,by omega⟩];omega
     clear HR HI HIt HT
     subst ha
     go_wp2_with fail
     go_ret
     obtain rfl:=HRR.out
     exact⟨rfl,rfl⟩
    ·have HRR:Hid (I+7*(k - 1)=R):=by
      have:=HIt.out
      show _=_
      rw [← HR.out,if_neg (fun c=>hb (by omega))];omega
     clear HR HI HIt HT
     subst ha
     go_wp2_with fail
     go_ret
     obtain rfl:=HRR.out
     exact⟨rfl,rfl⟩
   ·have HRR:Hid (I+7*(k - 1)=R):=by
     have:=HIt.out
     show _=_
     rw [← HR.out,if_neg (fun c=>ha c.1)];omega
    have ha':(k==5)=false:=by rw [beq_eq_false_iff_ne];exact ha
    clear HR HI HIt HT ha
    go_wp2_with fail
    go_ret
    obtain rfl:=HRR.out
    exact⟨rfl,rfl⟩
  ·have HI':Hid (I+1+(wd - (I+1)) % 7=f+t):=by have:=HI.out;show _=_;omega
   have hlt:I<f+t:=by have:=HI.out;omega
   have hw':(I % 7 !=wd)=true:=by rw [bne_iff_ne];exact hw
   clear hw
   go_wp2_with fail
   go_round
   case rel=>exact⟨I+1,by omega,by omega,rfl,HI'⟩
   case measure=>simp [intOf];omega
end Go.Proofs.YtcmbfflemoccmaaGreat
namespace Go.Proofs.YtcmbfflemoccmaaGreat
open Go.RowKit

theorem IP {W:Int} {r:Rul} {y:Int} (h:y<r.fr∨r.to<y):fR W r y=none:=by unfold fR gM;rw [if_pos h];rfl

set_option maxHeartbeats 1600000 in
theorem AZ (W y:Int) (r:Rul) (v:Value) (w:World) (h0:0≤W) (h1:W≤126) (hf:bA r=true) (hk:r.kind≠4) :
  Calls Tryz.prog 200 #[.agg #[.int .i64 W,v],.agg #[.int .i64 r.kind,.int .i64 r.mon,.int .i64 r.day,.int .i64 r.nth,.int .i64 r.wd,.int .i64 r.off,.int .i64 r.fr,.int .i64 r.to,.int .i64 r.mv],.int .i64 y] w fun e w'=>e=.returned (.tuple #[.int .i64 ((fR W r y).getD 0),.bool (fR W r y).isSome])∧Below w.heap.size w w':=by
 have hb2:∀ (o1 o2:Obj),Below w.heap.size w ((w.alloc o1).alloc o2):=fun o1 o2=>((Below.refl w.heap.size w).alloc (Nat.le_refl _) _).alloc (by simp) _
 have HB2:=hideS hb2
 clear hb2
 by_cases hy:y<r.fr∨r.to<y
 ·rw [IP hy]
  obtain⟨kind,mon,day,nth,wd,off,fr,to,mv⟩:=r
  dsimp only at *
  rcases (show y<fr∨(¬ y<fr∧to<y) by omega) with a | ⟨a,b⟩
  all_goals
   clear hy hf hk
   go_enter Tryz.func200,Tryz.ntmps200
   go_wp2_with fail
   go_ret2
   exact⟨rfl,HB2.out _ _⟩
 ·rcases fit_cases hf with⟨a,_⟩| ⟨⟨f0,f1,f2,v0,v1⟩,hkd⟩
  ·exact absurd a hk
  ·have y0:1900≤y:=by omega
   have y1:y≤2199:=by omega
   have hy1:¬ y<r.fr:=by omega
   have hy2:¬ r.to<y:=by omega
   obtain⟨R,hR⟩:∃ R,fR W r y=R:=⟨_,rfl⟩
   rw [hR]
   have HR:=hideS hR
   clear hR
   rcases hkd with⟨k1,m0,m1,d0,d1⟩| ⟨k2,m0,m1,w0,w1,c0,c1⟩| ⟨k3,o0,o1⟩
   ·by_cases ho:okD y r.mon r.day
    ·obtain⟨n0,n1⟩:=(iD ho).range
     have HO:=hideS (fun wx=>lA y r.mon r.day wx ho)
     obtain⟨u,d,hu⟩:=ji h0 h1 (ay y r.mon r.day)
     have HM:=hideS (fun wx=>iE W (ay y r.mon r.day) r.mv v u d wx (by omega) (by omega) hu)
     have HE:Hid (some (bL W (ay y r.mon r.day) r.mv u d)=R):=by
      show _=R
      rw [← HR.out]
      unfold fR gM
      rw [if_neg hy,if_pos k1,if_pos ho,Option.map_some,nj hu]
     generalize bL W (ay y r.mon r.day) r.mv u d=X at *
     generalize ay y r.mon r.day=N at *
     obtain⟨kind,mon,day,nth,wd,off,fr,to,mv⟩:=r
     dsimp only at *
     subst k1
     clear hf hk hy ho hu HR d1
     go_enter Tryz.func200,Tryz.ntmps200
     go_wp2_with (first | (go_at_call 137;refine (HO.out _).mono ?_;rintro e w1 ⟨rfl,rfl⟩) | (go_at_call 224;refine (HM.out _).mono ?_;rintro e w1 ⟨rfl,hb1⟩))
     go_ret2
     obtain rfl:=HE.out
     exact⟨rfl,(HB2.out _ _).trans (hb1.mono (by simp;omega))⟩
    ·have HO:=hideS (fun wx=>sS y r.mon r.day wx ho)
     have HE:Hid (none=R):=by
      show _=R
      rw [← HR.out]
      unfold fR gM
      rw [if_neg hy,if_pos k1,if_neg ho];rfl
     obtain⟨kind,mon,day,nth,wd,off,fr,to,mv⟩:=r
     dsimp only at *
     subst k1
     clear hf hk hy ho HR d1
     go_enter Tryz.func200,Tryz.ntmps200
     go_wp2_with (go_at_call 137;refine (HO.out _).mono ?_;rintro e w1 ⟨rfl,rfl⟩)
     go_ret2
     obtain rfl:=HE.out
     exact⟨rfl,HB2.out _ _⟩
   ·have hym:ymB y r.mon:=⟨y0,y1,m0,m1⟩
    obtain⟨n0,n1⟩:=CC hym w0 w1 c0 c1
    have HN:=hideS (fun wx=>AY y r.mon r.wd r.nth wx hym w0 w1 c0 c1)
    obtain⟨u,d,hu⟩:=ji h0 h1 (mB y r.mon r.wd r.nth)
    have HM:=hideS (fun wx=>iE W (mB y r.mon r.wd r.nth) r.mv v u d wx (by omega) (by omega) hu)
    have HE:Hid (some (bL W (mB y r.mon r.wd r.nth) r.mv u d)=R):=by
     show _=R
     rw [← HR.out]
     unfold fR gM
     rw [if_neg hy,if_neg (by omega),if_pos k2,Option.map_some,nj hu]
    generalize bL W (mB y r.mon r.wd r.nth) r.mv u d=X at *
    generalize mB y r.mon r.wd r.nth=N at *
    obtain⟨kind,mon,day,nth,wd,off,fr,to,mv⟩:=r
    dsimp only at *
    subst k2
    clear hf hk hy hym hu HR
    go_enter Tryz.func200,Tryz.ntmps200
    go_wp2_with (first | (go_at_call 222;refine (HN.out _).mono ?_;rintro e w1 ⟨rfl,rfl⟩) | (go_at_call 224;refine (HM.out _).mono ?_;rintro e w1 ⟨rfl,hb1⟩))
    go_ret2
    obtain rfl:=HE.out
    exact⟨rfl,(HB2.out _ _).trans (hb1.mono (by simp;omega))⟩
   ·obtain⟨n0,n1⟩:0≤dg y∧dg y≤109572:=(iD (jX y0 y1).ok).range
    have HN:=hideS (fun wx=>uR y wx y0 y1)
    obtain⟨u,d,hu⟩:=ji h0 h1 (dg y+r.off)
    have HM:=hideS (fun wx=>iE W (dg y+r.off) r.mv v u d wx (by omega) (by omega) hu)
    have HE:Hid (some (bL W (dg y+r.off) r.mv u d)=R):=by
     show _=R
     rw [← HR.out]
     unfold fR gM
     rw [if_neg hy,if_neg (by omega),if_neg (by omega),if_pos k3,Option.map_some,nj hu]
    generalize bL W (dg y+r.off) r.mv u d=X at *
    generalize dg y=N at *
    obtain⟨kind,mon,day,nth,wd,off,fr,to,mv⟩:=r
    dsimp only at *
    subst k3
    clear hf hk hy hu HR
    go_enter Tryz.func200,Tryz.ntmps200
    go_wp2_with (first | (go_at_call 223;refine (HN.out _).mono ?_;rintro e w1 ⟨rfl,rfl⟩) | (go_at_call 224;refine (HM.out _).mono ?_;rintro e w1 ⟨rfl,hb1⟩))
    go_ret2
    obtain rfl:=HE.out
    exact⟨rfl,(HB2.out _ _).trans (hb1.mono (by simp;omega))⟩
end Go.Proofs.YtcmbfflemoccmaaGreat
namespace Go.Proofs.YtcmbfflemoccmaaGreat
open Go.RowKit

structure HK (w:World) (W:Int) (v:Value) (b5:Nat) (Y m d:Int) (wr:World):Prop where
 box:CBox w W v wr
 d0:wr.cell? ⟨b5,0,none⟩=some (.int .i64 Y)
 d1:wr.cell? ⟨b5,1,none⟩=some (.int .i64 m)
 d2:wr.cell? ⟨b5,2,none⟩=some (.int .i64 d)
 lt:b5<wr.heap.size
theorem HK.step {w wr w':World} {W:Int} {v:Value} {b5:Nat} {Y m d:Int} (h:HK w W v b5 Y m d wr) (hb:Below wr.heap.size wr w'):HK w W v b5 Y m d w':=
 ⟨h.box.step hb,(hb.cell (p:=⟨b5,0,none⟩) h.lt).trans h.d0,(hb.cell (p:=⟨b5,1,none⟩) h.lt).trans h.d1,(hb.cell (p:=⟨b5,2,none⟩) h.lt).trans h.d2,Nat.lt_of_lt_of_le h.lt hb.size⟩
theorem HK.first {w w1:World} {W:Int} {v:Value} {Y m d:Int} (h:CBox w W v w1):HK w W v w1.heap.size Y m d (w1.alloc (.cells #[.int .i64 Y,.int .i64 m,.int .i64 d] 170)):=
 ⟨h.step ((Below.refl _ w1).alloc (Nat.le_refl _) _),by simp,by simp,by simp,by simp⟩

structure HK2 (w:World) (W:Int) (v:Value) (b5:Nat) (Y m d:Int) (b8:Nat) (r:Rul) (wr:World):Prop where
 hk:HK w W v b5 Y m d wr
 rc:RCells wr b8 0 r
 lt8:b8<wr.heap.size
theorem HK2.step {w wr w':World} {W:Int} {v:Value} {b5:Nat} {Y m d:Int} {b8:Nat} {r:Rul} (h:HK2 w W v b5 Y m d b8 r wr) (hb:Below wr.heap.size wr w'):HK2 w W v b5 Y m d b8 r w':=
 ⟨h.hk.step hb,h.rc.below hb h.lt8,Nat.lt_of_lt_of_le h.lt8 hb.size⟩
theorem HK2.first {w wr:World} {W:Int} {v:Value} {b5:Nat} {Y m d:Int} {r:Rul} (h:HK w W v b5 Y m d wr) :
  HK2 w W v b5 Y m d wr.heap.size r (wr.alloc (.cells #[.int .i64 r.kind,.int .i64 r.mon,.int .i64 r.day,.int .i64 r.nth,.int .i64 r.wd,.int .i64 r.off,.int .i64 r.fr,.int .i64 r.to,.int .i64 r.mv] 168)):=
 ⟨h.step ((Below.refl _ wr).alloc (Nat.le_refl _) _),⟨by simp,by simp,by simp,by simp,by simp,by simp,by simp,by simp,by simp⟩,by simp⟩

set_option maxHeartbeats 1600000 in
theorem Ba (W n Y m d:Int) (p:Option Addr) (b off c:Nat) (rs:List Rul) (w:World) (h0:0≤W) (h1:W≤126) (hs:RSrc w p b off rs) (hf:∀ r ∈ rs,bA r=true) (hn:rs.length≤100) (hd:IsD n Y m d) :
  Calls Tryz.prog 174 #[.agg #[.int .i64 W,.slice p rs.length c],.int .i64 n] w fun e w'=>e=.returned (.bool (mD W rs n Y))∧Below w.heap.size w w':=by
 have HC:=hideS (fun wx=>jI n Y m d wx hd)
 unfold yz at HC
 have HS:=hideS hs
 have HF:=hideS hf
 obtain⟨N,hN⟩:∃ N,rs.length=N:=⟨_,rfl⟩
 have HN:=hideS hN
 rw [hN] at hn ⊢
 obtain⟨R,hR⟩:∃ R,mD W rs n Y=R:=⟨_,rfl⟩
 rw [hR]
 have HR:=hideS hR
 obtain⟨y0,y1,_,_,_,_⟩:=hd.1
 clear hN hR hs hf hd
 go_enter Tryz.func174,Tryz.ntmps174
 go_wp2_with (go_at_call 136;refine (HC.out _).mono ?_;rintro e w1 ⟨rfl,hb1⟩;have HB1:=hideS (CBox.first hb1);clear hb1)
 have HK1:=hideS (HK.first (Y:=Y) (m:=m) (d:=d) HB1.out)
 clear HB1 HC
 generalize w1.heap.size=b5 at *
 go_loopw [7,8] (fun i _ wr=>∃ (k:Nat),k≤N∧i=.int .i64 k∧Hid (HK w W (.slice p N c) b5 Y m d wr)∧Hid (∀ j<k,qr W (rs.getD j dh) n Y=false)) (fun i _ _=>N - (intOf i).toNat)
 case atStart=>exact⟨0,by omega,rfl,HK1,fun j hj=>by omega⟩
 case round=>
  obtain⟨k,hk,rfl,HB,HNo⟩:=hrel
  obtain⟨c0,c1⟩:=dP HB.out.box
  by_cases hlt:k<N
  ·have hx:k<rs.length:=by rw [HN.out];exact hlt
   obtain rfl:=HS.out.at_ (by omega)
   have hrc:=(HS.out.cell k hx).below HB.out.box.below (HS.out.lt (by omega))
   have HFk:=hideS (HF.out (rs.getD k dh) (by rw [List.getD_eq_getElem?_getD,List.getElem?_eq_getElem hx];exact List.getElem_mem hx))
   obtain⟨r,hr⟩:∃ r,rs.getD k dh=r:=⟨_,rfl⟩
   rw [hr] at hrc HFk
   have HRk:=hideS hr
   clear hr hx
   obtain⟨g0,g1,g2,g3,g4,g5,g6,g7,g8⟩:=hrc
   by_cases k4:r.kind=4
   ·have HH:Hid (qr W r n Y=(r.day==n)):=by show _=_;unfold qr;rw [if_pos k4]
    by_cases hd:r.day=n
    ·have HE:Hid (true=R):=by
      show _=_
      rw [← HR.out]
      refine (List.any_eq_true.2 ⟨r,?_,?_⟩).symm
      ·rw [← HRk.out,List.getD_eq_getElem?_getD,List.getElem?_eq_getElem (by rw [HN.out];exact hlt)];exact List.getElem_mem _
      ·rw [HH.out];exact beq_iff_eq.2 hd
     obtain⟨kind,mon,day,nth,wd,offs,fr,to,mv⟩:=r
     dsimp only at *
     subst k4 hd
     clear HH HFk HRk
     go_wp2_with fail
     go_ret
     obtain rfl:=HE.out
     exact⟨rfl,(HB.out.step ((Below.refl _ wr).alloc (Nat.le_refl _) _)).box.below⟩
    ·have HNk:Hid (∀ j<k+1,qr W (rs.getD j dh) n Y=false):=fun j hj=>by
      by_cases hjk:j<k
      ·exact HNo.out j hjk
      ·obtain rfl:j=k:=by omega
       rw [HRk.out,HH.out];exact beq_eq_false_iff_ne.2 hd
     have hd':(r.day==n)=false:=beq_eq_false_iff_ne.2 hd
     obtain⟨kind,mon,day,nth,wd,offs,fr,to,mv⟩:=r
     dsimp only at *
     subst k4
     clear HH HFk HRk hd
     go_wp2_with fail
     go_roundw
     case rel=>exact⟨k+1,by omega,by go_num,HB.out.step ((Below.refl _ wr).alloc (Nat.le_refl _) _),HNk⟩
     case measure=>simp [intOf];omega
   ·have HD:=hideS (fun (y:Int) (wx:World)=>AZ W y r (.slice (some ⟨b,off,none⟩) N c) wx h0 h1 HFk.out k4)
    have k4':(r.kind==4)=false:=beq_eq_false_iff_ne.2 k4
    have HH:Hid (qr W r n Y=(fR W r (Y - 1)==some n||fR W r Y==some n||fR W r (Y+1)==some n)):=by show _=_;unfold qr;rw [if_neg k4]
    clear k4
    have e0:∀ o,(wr.alloc o).cell? ⟨b5,0,none⟩=some (.int .i64 Y):=fun o=>(((Below.refl _ wr).alloc (Nat.le_refl _) o).cell (p:=⟨b5,0,none⟩) HB.out.lt).trans HB.out.d0
    have HKb:=hideS (HK2.first (r:=r) HB.out)
    have hrk:∃ r',r'=r:=⟨r,rfl⟩
    obtain⟨r',hr'⟩:=hrk
    rw [← hr'] at HH HFk HRk HD HKb
    have HR':=hideS hr'
    obtain⟨kind,mon,day,nth,wd,offs,fr,to,mv⟩:=r
    dsimp only at *
    clear hr'
    go_wp2_with fail
    clear e0 g0 g1 g2 g3 g4 g5 g6 g7 g8 c0 c1
    generalize wr.heap.size=b8 at *
    go_loopw [9,10,11] (fun y _ _ w2=>∃ (t:Nat) (I:Int),t≤3∧1899≤I∧I≤2201∧y=.int .i64 I∧Hid (I=Y - 1+t)∧Hid (HK2 w W (.slice (some ⟨b,off,none⟩) N c) b5 Y m d b8 r' w2)∧Hid (∀ s<t,(fR W r' (Y - 1+(s:Nat))==some n)=false)) (fun y _ _ _=>(Y+2 - intOf y).toNat)
    case atStart=>exact⟨0,Y - 1,by omega,by omega,by omega,rfl,by show _=_;omega,by have:=HR'.out;subst this;exact HKb,fun s hs=>by omega⟩
    case round=>
     clear HKb HB
     obtain⟨t,I,ht,hI0,hI1,rfl,HI,HKb,HNt⟩:=hrel
     obtain⟨c0,c1⟩:=dP HKb.out.hk.box
     have d0:=HKb.out.hk.d0
     have q0:wr.cell? ⟨b8,0,none⟩=some (.int .i64 r'.kind):=HKb.out.rc.c0
     have q1:wr.cell? ⟨b8,1,none⟩=some (.int .i64 r'.mon):=HKb.out.rc.c1
     have q2:wr.cell? ⟨b8,2,none⟩=some (.int .i64 r'.day):=HKb.out.rc.c2
     have q3:wr.cell? ⟨b8,3,none⟩=some (.int .i64 r'.nth):=HKb.out.rc.c3
     have q4:wr.cell? ⟨b8,4,none⟩=some (.int .i64 r'.wd):=HKb.out.rc.c4
     have q5:wr.cell? ⟨b8,5,none⟩=some (.int .i64 r'.off):=HKb.out.rc.c5
     have q6:wr.cell? ⟨b8,6,none⟩=some (.int .i64 r'.fr):=HKb.out.rc.c6
     have q7:wr.cell? ⟨b8,7,none⟩=some (.int .i64 r'.to):=HKb.out.rc.c7
     have q8:wr.cell? ⟨b8,8,none⟩=some (.int .i64 r'.mv):=HKb.out.rc.c8
     by_cases ht3:t<3
     ·have hIY:I≤Y+1:=by have:=HI.out;omega
      have HDy:=hideS (fun wx=>HD.out I wx)
      obtain⟨o,ho⟩:∃ o,fR W r' I=o:=⟨_,rfl⟩
      rw [ho] at HDy
      have HOo:=hideS ho
      clear ho
      rcases o with _ | x
      ·have HNt':Hid (∀ s<t+1,(fR W r' (Y - 1+(s:Nat))==some n)=false):=fun s hs=>by
        by_cases hst:s<t
        ·exact HNt.out s hst
        ·obtain rfl:s=t:=by omega
         rw [← HI.out,HOo.out];rfl
       dsimp only [Option.getD,Option.isSome] at HDy
       go_wp2_with (go_at_call 200;refine (HDy.out _).mono ?_;rintro e w3 ⟨rfl,hb3⟩;have HKc:=hideS (HKb.out.step hb3);clear hb3)
       go_roundw
       case rel=>exact⟨t+1,I+1,by omega,by omega,by omega,rfl,by have:=HI.out;show _=_;omega,HKc,HNt'⟩
       case measure=>simp [intOf];omega
      ·by_cases hxn:x=n
       ·have HE:Hid (true=R):=by
         show _=_
         rw [← HR.out]
         refine (List.any_eq_true.2 ⟨r',?_,?_⟩).symm
         ·rw [← HRk.out,List.getD_eq_getElem?_getD,List.getElem?_eq_getElem (by rw [HN.out];exact hlt)];exact List.getElem_mem _
         ·rw [HH.out]
          have e1:(fR W r' I==some n)=true:=by rw [HOo.out,hxn];exact beq_self_eq_true _
          have:=HI.out
          rcases (show t=0∨t=1∨t=2 by omega) with rfl | rfl | rfl
          ·rw [show Y - 1=I by omega,e1];rfl
          ·rw [show Y=I by omega,e1,Bool.or_true];rfl
          ·rw [show Y+1=I by omega,e1,Bool.or_true]
        subst hxn
        dsimp only [Option.getD,Option.isSome] at HDy
        go_wp2_with (go_at_call 200;refine (HDy.out _).mono ?_;rintro e w3 ⟨rfl,hb3⟩;have HKc:=hideS (HKb.out.step hb3);clear hb3)
        go_ret
        obtain rfl:=HE.out
        exact⟨rfl,HKc.out.hk.box.below⟩
       ·have HNt':Hid (∀ s<t+1,(fR W r' (Y - 1+(s:Nat))==some n)=false):=fun s hs=>by
         by_cases hst:s<t
         ·exact HNt.out s hst
         ·obtain rfl:s=t:=by omega
          rw [← HI.out,HOo.out]
          exact beq_eq_false_iff_ne.2 (fun a=>hxn (Option.some.inj a))
        have hxn':(x==n)=false:=beq_eq_false_iff_ne.2 hxn
        clear hxn
        dsimp only [Option.getD,Option.isSome] at HDy
        go_wp2_with (go_at_call 200;refine (HDy.out _).mono ?_;rintro e w3 ⟨rfl,hb3⟩;have HKc:=hideS (HKb.out.step hb3);clear hb3)
        go_roundw
        case rel=>exact⟨t+1,I+1,by omega,by omega,by omega,rfl,by have:=HI.out;show _=_;omega,HKc,HNt'⟩
        case measure=>simp [intOf];omega
     ·have hIY:¬ I≤Y+1:=by have:=HI.out;omega
      have HNk:Hid (∀ j<k+1,qr W (rs.getD j dh) n Y=false):=fun j hj=>by
       by_cases hjk:j<k
       ·exact HNo.out j hjk
       ·obtain rfl:j=k:=by omega
        rw [HRk.out,HH.out]
        have a0:=HNt.out 0 (by omega)
        have a1:=HNt.out 1 (by omega)
        have a2:=HNt.out 2 (by omega)
        rw [show Y - 1+((0:Nat):Int)=Y - 1 by omega] at a0
        rw [show Y - 1+((1:Nat):Int)=Y by omega] at a1
        rw [show Y - 1+((2:Nat):Int)=Y+1 by omega] at a2
        rw [a0,a1,a2];rfl
      go_wp2_with fail
      go_roundw
      case rel=>exact⟨k+1,by omega,by go_num,HKb.out.hk,HNk⟩
      case measure=>simp [intOf];omega
  ·have HE:Hid (false=R):=by
    show _=_
    rw [← HR.out]
    refine (Bool.eq_false_iff.2 fun a=>?_).symm
    obtain⟨r,hm,hr⟩:=List.any_eq_true.1 a
    obtain⟨j,hj,rfl⟩:=List.getElem_of_mem hm
    have:=HNo.out j (by have:=HN.out;omega)
    rw [List.getD_eq_getElem?_getD,List.getElem?_eq_getElem hj] at this
    exact Bool.noConfusion (this.symm.trans hr)
   have hge:¬ (k:Int)<N:=by omega
   go_wp2_with fail
   go_ret
   obtain rfl:=HE.out
   exact⟨rfl,HB.out.box.below⟩
end Go.Proofs.YtcmbfflemoccmaaGreat
