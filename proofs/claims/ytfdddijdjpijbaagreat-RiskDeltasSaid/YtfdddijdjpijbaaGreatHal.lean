/-  -/
import Derived.Test.YtfdddijdjpijbaaGreatDLen
import Derived.Deep.RegionWith
import Derived.Test.YtfdddijdjpijbaaGreatHad
import Derived.Laws.BitsAllLaws
import Derived.Laws.Bits64b
set_option maxHeartbeats 3200000
namespace Go.Proofs.YtfdddijdjpijbaaGreat
open Go.RowKit
def ymB (y m:Int):Prop:=1900<=y/\y<=2199/\1<=m/\m<=12
theorem fX (y:Int) (w:World) :
  Calls Tryz.prog 218 #[.int .i64 y] w fun e a=>e=.returned (.bool (decide (1900<=y/\y<=2199)))/\a=w:=by
 by_cases c:1900<=y<;>by_cases b:y<=2199
 all_goals
  first | rw [decide_eq_true (⟨c,b⟩:1900<=y/\y<=2199)] | rw [decide_eq_false (fun h:1900<=y/\y<=2199=>by omega)]
  go_enter Tryz.func218,Tryz.ntmps218
  go_wp2
  go_ret
  exact⟨rfl,rfl⟩
theorem fY (y m:Int) (w:World) (h:ymB y m) :
  Calls Tryz.prog 205 #[.int .i64 y,.int .i64 m] w fun e a=>e=.returned (.tuple #[.int .i64 (cK y m),.int .i64 0])/\a=w:=by
 obtain⟨c,i,g,d⟩:=h;have b:=fX y;rw [decide_eq_true (⟨c,i⟩:1900<=y/\y<=2199)] at b
 have f:=hideS (kX y m w g d);have j:=hideS b;clear b;generalize cK y m=L at *
 go_enter Tryz.func205,Tryz.ntmps205
 go_wp2_with (first | (go_at_call 218;refine (j.out _).mono ?_;rintro e a ⟨rfl,rfl⟩) | (go_at_call 206;refine f.out.mono ?_;rintro e a ⟨rfl,rfl⟩))
 go_ret2
 exact⟨rfl,rfl⟩
theorem jC (y m:Int) (w:World) (h:¬ ymB y m) :
  Calls Tryz.prog 205 #[.int .i64 y,.int .i64 m] w fun e c=>e=.returned (.tuple #[.int .i64 0,.int .i64 50])/\c=w:=by
 unfold ymB at h
 by_cases a:1900<=y/\y<=2199
 ·have b:=fX y;rw [decide_eq_true a] at b
  have d:=hideS b;clear b;rcases (show m<1\/(1<=m/\12<m) by omega) with g | ⟨g,f⟩
  all_goals
   clear h a
   go_enter Tryz.func205,Tryz.ntmps205
   go_wp2_with (go_at_call 218;refine (d.out _).mono ?_;rintro e c ⟨rfl,rfl⟩)
   go_ret2
   exact⟨rfl,rfl⟩
 ·have b:=fX y;rw [decide_eq_false a] at b
  have d:=hideS b;clear b h a
  go_enter Tryz.func205,Tryz.ntmps205
  go_wp2_with (go_at_call 218;refine (d.out _).mono ?_;rintro e c ⟨rfl,rfl⟩)
  go_ret2
  exact⟨rfl,rfl⟩
theorem ui (y:Int) (w:World) (h:0<=y) (b:y<=3000) :
  Calls Tryz.prog 207 #[.int .i64 y] w fun e a=>e=.returned (.int .i64 (oH y))/\a=w:=by
 unfold oH
 go_enter Tryz.func207,Tryz.ntmps207
 go_wp2
 go_ret
 exact⟨rfl,rfl⟩
theorem jD (y:Int) (w:World) (h:1900<=y) (j:y<=2200) :
  Calls Tryz.prog 192 #[.int .i64 y] w fun e a=>e=.returned (.int .i64 (nyI y))/\a=w:=by
 have d:=hideS (ui (y - 1) w (by omega) (by omega))
 have b:=hideS (ui 1899 w (by omega) (by omega))
 have c:oH 1899=460:=by decide
 rw [c] at b
 unfold nyI;have f:0<=oH (y - 1)/\oH (y - 1)<=3000:=by unfold oH;omega
 obtain⟨i,g⟩:=f;generalize oH (y - 1)=L at *
 clear c
 go_enter Tryz.func192,Tryz.ntmps192
 go_wp2_with (first | (go_at_call_of 207 (Value.int IntKind.i64 1899);refine b.out.mono ?_;rintro e a ⟨rfl,rfl⟩) | (go_at_call 207;refine d.out.mono ?_;rintro e a ⟨rfl,rfl⟩))
 go_ret
 exact⟨rfl,rfl⟩
theorem nv (y m d:Int) (w:World) (h:okD y m d) :
  Calls Tryz.prog 187 #[.int .i64 y,.int .i64 m,.int .i64 d] w fun e j=>e=.returned (.tuple #[.int .i64 (aW y m d),.int .i64 0])/\j=w:=by
 obtain⟨g,D,A,I,T,G⟩:=h;have p:=hideS (fY y m w ⟨g,D,A,I⟩);have c:=hideS (jD y w g (by omega))
 have K:=jB y m;have f:=hideS (fun (k:Int) (q:World) (a:1<=k) (b:k<=12)=>kX y k q a b)
 have o:Hid (aW y m d=nyI y+d - 1+cI y m):=by show _=_;unfold aW;omega
 have J:0<=nyI y:=by have:=nY g;omega
 have M:nyI y<=110000:=by have:=nZ g;omega
 obtain⟨R,s⟩:∃ R,aW y m d=R:=⟨_,rfl⟩;rw [s] at o ⊢
 clear s;obtain⟨L,t⟩:∃ L,cK y m=L:=⟨_,rfl⟩;rw [t] at p G K
 clear t;obtain⟨N,u⟩:∃ N,nyI y=N:=⟨_,rfl⟩;rw [u] at c J M o
 clear u
 go_enter Tryz.func187,Tryz.ntmps187
 go_wp2_with (first | (go_at_call 205;refine p.out.mono ?_;rintro e j ⟨rfl,rfl⟩) | (go_at_call 192;refine c.out.mono ?_;rintro e j ⟨rfl,rfl⟩))
 clear p c
 go_loop [35,10] (fun i n=>∃ (k:Nat) (C:Int),(k:Int)+1<=m/\0<=C/\C<=200000/\i=.int .i64 k/\n=.int .i64 C/\Hid (C=N+d - 1+cI y (k+1))) (fun i _=>(m - intOf i).toNat)
 case atStart=>exact⟨0,N+d - 1,by omega,by omega,by omega,rfl,rfl,by show _=_;rw [show (((0:Nat):Int)+1)=1 by rfl,fy];omega⟩
 case round=>
  obtain⟨k,C,U,F,O,rfl,rfl,r⟩:=hrel
  by_cases z:(k:Int)+1<m
  ·have H:=hideS (fun q=>f.out (k+1) q (by omega) (by omega))
   have c:Hid (C+cK y (k+1)=N+d - 1+cI y (((k+1:Nat):Int)+1)):=by
    show _=_
    rw [r.out,show (((k+1:Nat):Int)+1)=(k:Int)+1+1 by omega,ia (m:=(k:Int)+1) (by omega) (by omega)];omega
   have B:Hid (cI y (((k+1:Nat):Int)+1)<=366):=KU (by omega) (by omega)
   have S:=jA y (k+1);have Q:=jB y (k+1);generalize cK y (k+1)=l at *
   have x:(k:Int)<m - 1:=by omega
   go_wp2_with (go_at_call 206;refine (H.out _).mono ?_;rintro e j ⟨rfl,rfl⟩)
   go_round
   case rel=>exact⟨k+1,C+l,by omega,by omega,by have:=c.out;have:=B.out;omega,by go_num,rfl,c⟩
   case measure=>simp [intOf];omega
  ·have v:m=(k:Int)+1:=by omega
   have P:Hid (C=R):=by show _=_;rw [r.out,o.out,v]
   have E:¬ (k:Int)<m - 1:=by omega
   clear r o v
   go_wp2_with fail
   go_ret2
   obtain rfl:=P.out;exact⟨rfl,rfl⟩
theorem NM (y m d:Int) (w:World) (h:¬ okD y m d) :
  Calls Tryz.prog 187 #[.int .i64 y,.int .i64 m,.int .i64 d] w fun e c=>e=.returned (.tuple #[.int .i64 0,.int .i64 50])/\c=w:=by
 by_cases a:ymB y m
 ·have b:=hideS (fY y m w a);obtain⟨n,l,k,i⟩:=a;unfold okD at h
  have j:=jA y m;generalize cK y m=L at *
  rcases (show d<1\/(1<=d/\L<d) by omega) with g | ⟨g,f⟩
  all_goals
   clear h
   go_enter Tryz.func187,Tryz.ntmps187
   go_wp2_with (go_at_call 205;refine b.out.mono ?_;rintro e c ⟨rfl,rfl⟩)
   go_ret2
   exact⟨rfl,rfl⟩
 ·have b:=hideS (jC y m w a);clear a h
  go_enter Tryz.func187,Tryz.ntmps187
  go_wp2_with (go_at_call 205;refine b.out.mono ?_;rintro e c ⟨rfl,rfl⟩)
  go_ret2
  exact⟨rfl,rfl⟩
theorem nw {y m:Int} (h:ymB y m) (d:Int) (f:1<=d) (g:d<=28):okD y m d:=by
 obtain⟨a,b,c,e⟩:=h;have:=jA y m;exact⟨a,b,c,e,f,by omega⟩
def jE (y:Int):Int:=aW y (eaT y / 31) (eaT y % 31+1)
structure EaW (y a b c d e f g h i k l m t:Int):Prop where
 fa:y % 19=a
 fb:y / 100=b
 fc:y % 100=c
 fd:b / 4=d
 fe:b % 4=e
 ff:(b+8) / 25=f
 fg:(b - f+1) / 3=g
 fh:(19*a+b - d - g+15) % 30=h
 fi:c / 4=i
 fk:c % 4=k
 fl:(32+2*e+2*i - h - k) % 7=l
 fm:(a+11*h+22*l) / 451=m
 ft:h+l - 7*m+114=t
theorem Qg (y:Int):∃ a b c d e f g h i k l m,EaW y a b c d e f g h i k l m (eaT y):=
 ⟨_,_,_,_,_,_,_,_,_,_,_,_,⟨rfl,rfl,rfl,rfl,rfl,rfl,rfl,rfl,rfl,rfl,rfl,rfl,rfl⟩⟩
theorem zJ (y:Int) (w:World) (v:1900<=y) (o:y<=2199) :
  Calls Tryz.prog 260 #[.int .i64 y] w fun e D=>e=.returned (.tuple #[.int .i64 (eaT y / 31),.int .i64 (eaT y % 31+1)])/\D=w:=by
 obtain⟨a,b,c,d,e,f,g,h,i,k,l,m,H⟩:=Qg y;have S:=(uh v o).pos;have I:=(uh v o).small;generalize eaT y=t at *
 obtain⟨P,T,ec,M,K,G,X,N,L,Z,el,em,Y⟩:=H;have s:0<=a/\a<=18:=by omega
 have x:19<=b/\b<=21:=by omega
 have c0:0<=c/\c<=99:=by omega
 have p:0<=d/\d<=5:=by omega
 have q:0<=e/\e<=3:=by omega
 have A:0<=f/\f<=2:=by omega
 have r:0<=g/\g<=8:=by omega
 have n:0<=h/\h<=29:=by omega
 have j:0<=i/\i<=24:=by omega
 have u:0<=k/\k<=3:=by omega
 have B:0<=l/\l<=6:=by omega
 have z:0<=m/\m<=2:=by omega
 obtain⟨s,a1⟩:=s;obtain⟨x,V⟩:=x;obtain⟨c0,c1⟩:=c0;obtain⟨p,U⟩:=p;obtain⟨q,Q⟩:=q;obtain⟨A,J⟩:=A;obtain⟨r,W⟩:=r;obtain⟨n,C⟩:=n;obtain⟨j,R⟩:=j;obtain⟨u,E⟩:=u;obtain⟨B,O⟩:=B;obtain⟨z,F⟩:=z
 go_enter Tryz.func260,Tryz.ntmps260
 go_wp2_with fail
 go_ret2
 exact⟨rfl,rfl⟩
theorem Gs (y:Int) (w:World) (b:1900<=y) (c:y<=2199) :
  Calls Tryz.prog 259 #[.int .i64 y] w fun e a=>e=.returned (.tuple #[.int .i64 (jE y),.int .i64 0])/\a=w:=by
 have h:Hid (∀ w,Calls Tryz.prog 218 #[.int .i64 y] w fun e a=>e=.returned (.bool true)/\a=w):=fun w=>by
  have d:=fX y w;rw [decide_eq_true (⟨b,c⟩:1900<=y/\y<=2199)] at d;exact d
 have g:=hideS (zJ y w b c);have f:=hideS (nv y (eaT y / 31) (eaT y % 31+1) w (uh b c).ok);unfold jE;generalize aW y (eaT y / 31) (eaT y % 31+1)=R at *
 generalize eaT y / 31=M at *
 generalize eaT y % 31+1=D at *
 go_enter Tryz.func259,Tryz.ntmps259
 go_wp2_with (first | (go_at_call 218;refine (h.out _).mono ?_;rintro e a ⟨rfl,rfl⟩) | (go_at_call 260;refine g.out.mono ?_;rintro e a ⟨rfl,rfl⟩) | (go_at_call 187;refine f.out.mono ?_;rintro e a ⟨rfl,rfl⟩))
 go_ret2
 exact⟨rfl,rfl⟩
theorem Ci (y:Int) (w:World) (h:¬ (1900<=y/\y<=2199)) :
  Calls Tryz.prog 259 #[.int .i64 y] w fun e a=>e=.returned (.tuple #[.int .i64 0,.int .i64 50])/\a=w:=by
 have c:Hid (∀ w,Calls Tryz.prog 218 #[.int .i64 y] w fun e a=>e=.returned (.bool false)/\a=w):=fun w=>by
  have b:=fX y w;rw [decide_eq_false h] at b;exact b
 clear h
 go_enter Tryz.func259,Tryz.ntmps259
 go_wp2_with (go_at_call 218;refine (c.out _).mono ?_;rintro e a ⟨rfl,rfl⟩)
 go_ret2
 exact⟨rfl,rfl⟩
theorem Cj {W n:Int} {u d a d':Nat} (h:Ups W n u d) (b:Ups W n a d'):u=a/\d=d':=by
 constructor
 ·rcases Nat.lt_trichotomy u a with e | e | e
  ·have:=b.uo u e;rw [h.uf] at this;exact Bool.noConfusion this
  ·exact e
  ·have:=h.uo a e;rw [b.uf] at this;exact Bool.noConfusion this
 ·rcases Nat.lt_trichotomy d d' with e | e | e
  ·have:=b.dn d e;rw [h.df] at this;exact Bool.noConfusion this
  ·exact e
  ·have:=h.dn d' e;rw [b.df] at this;exact Bool.noConfusion this
open Classical in
noncomputable def mvI (W n mv:Int):Int:=if h:∃ p:Nat×Nat,Ups W n p.1 p.2 then cU W n mv h.choose.1 h.choose.2 else n
theorem zK {W n mv:Int} {u d:Nat} (h:Ups W n u d):mvI W n mv=cU W n mv u d:=by
 have a:∃ p:Nat×Nat,Ups W n p.1 p.2:=⟨(u,d),h⟩;unfold mvI;rw [dif_pos a];have e:=Cj a.choose_spec h;rw [e.1,e.2]
def uj (m:Int):Int:=if m=2 then 29 else if m=4\/m=6\/m=9\/m=11 then 30 else 31
def cF (r:Rul):Bool:=
 if r.kind=4 then decide (r.mon=0/\r.nth=0/\r.wd=0/\r.off=0/\r.fr=0/\r.to=0/\r.mv=0/\0<=r.day/\r.day<=109572)
 else decide (1900<=r.fr/\r.fr<=2199/\r.fr<=r.to/\r.to<=2199/\0<=r.mv/\r.mv<=2)&&
  (if r.kind=1 then decide (r.nth=0/\r.wd=0/\r.off=0/\1<=r.mon/\r.mon<=12/\1<=r.day/\r.day<=uj r.mon)
  else if r.kind=2 then decide (r.day=0/\r.off=0/\1<=r.mon/\r.mon<=12/\0<=r.wd/\r.wd<=6/\1<=r.nth/\r.nth<=5)
  else if r.kind=3 then decide (r.mon=0/\r.day=0/\r.nth=0/\r.wd=0/\-100<=r.off/\r.off<=100) else false)
theorem fit_cases {r:Rul} (h:cF r=true) :
  (r.kind=4/\0<=r.day/\r.day<=109572/\r.mv=0)\/
  ((1900<=r.fr/\r.fr<=r.to/\r.to<=2199/\0<=r.mv/\r.mv<=2)/\
   ((r.kind=1/\1<=r.mon/\r.mon<=12/\1<=r.day/\r.day<=uj r.mon)\/(r.kind=2/\1<=r.mon/\r.mon<=12/\0<=r.wd/\r.wd<=6/\1<=r.nth/\r.nth<=5)\/(r.kind=3/\-100<=r.off/\r.off<=100))):=by
 unfold cF at h
 by_cases g:r.kind=4
 ·rw [if_pos g,decide_eq_true_eq] at h
  exact Or.inl ⟨g,h.2.2.2.2.2.2.2.1,h.2.2.2.2.2.2.2.2,h.2.2.2.2.2.2.1⟩
 ·rw [if_neg g,Bool.and_eq_true,decide_eq_true_eq] at h
  obtain⟨⟨a,b,c,d,e,f⟩,h⟩:=h;refine Or.inr ⟨⟨a,c,d,e,f⟩,?_⟩
  by_cases i:r.kind=1
  ·rw [if_pos i,decide_eq_true_eq] at h
   exact Or.inl ⟨i,h.2.2.2⟩
  ·rw [if_neg i] at h
   by_cases j:r.kind=2
   ·rw [if_pos j,decide_eq_true_eq] at h
    exact Or.inr (Or.inl ⟨j,h.2.2⟩)
   ·rw [if_neg j] at h
    by_cases k:r.kind=3
    ·rw [if_pos k,decide_eq_true_eq] at h
     exact Or.inr (Or.inr ⟨k,h.2.2.2.2⟩)
    ·rw [if_neg k] at h;exact Bool.noConfusion h
open Classical in
noncomputable def oa (r:Rul) (y:Int):Option Int:=
 if y<r.fr\/r.to<y then none
 else if r.kind=1 then (if okD y r.mon r.day then some (aW y r.mon r.day) else none)
 else if r.kind=2 then some (Gr y r.mon r.wd r.nth)
 else if r.kind=3 then some (jE y+r.off) else some 0
noncomputable def KY (W:Int) (r:Rul) (y:Int):Option Int:=(oa r y).map (fun n=>mvI W n r.mv)
noncomputable def NO (W:Int) (r:Rul) (n Y:Int):Bool:=
 if r.kind=4 then r.day==n else KY W r (Y - 1)==some n||KY W r Y==some n||KY W r (Y+1)==some n
noncomputable def wN (W:Int) (rs:List Rul) (n Y:Int):Bool:=rs.any fun r=>NO W r n Y
theorem NP {y m wd k:Int} (h:ymB y m) (_d0:0<=wd) (_d1:wd<=6) (a:1<=k) (d:k<=5):0<=Gr y m wd k/\Gr y m wd k<=110000:=by
 obtain⟨b,c⟩:=(nu (nw h 1 (by omega) (by omega))).range
 have e:=jA y m
 show 0<=(if k=5/\aW y m 1+cK y m<=aW y m 1+(wd - aW y m 1) % 7+7*(k - 1) then aW y m 1+(wd - aW y m 1) % 7+7*(k - 1) - 7 else aW y m 1+(wd - aW y m 1) % 7+7*(k - 1))/\(if k=5/\aW y m 1+cK y m<=aW y m 1+(wd - aW y m 1) % 7+7*(k - 1) then aW y m 1+(wd - aW y m 1) % 7+7*(k - 1) - 7 else aW y m 1+(wd - aW y m 1) % 7+7*(k - 1))<=110000
 split<;>omega
def jF:Rul:=⟨0,0,0,0,0,0,0,0,0⟩
structure RCells (w:World) (b o:Nat) (r:Rul):Prop where
 c0:w.cell? ⟨b,o,none⟩=some (.int .i64 r.kind)
 c1:w.cell? ⟨b,o+1,none⟩=some (.int .i64 r.mon)
 c2:w.cell? ⟨b,o+2,none⟩=some (.int .i64 r.day)
 c3:w.cell? ⟨b,o+3,none⟩=some (.int .i64 r.nth)
 c4:w.cell? ⟨b,o+4,none⟩=some (.int .i64 r.wd)
 c5:w.cell? ⟨b,o+5,none⟩=some (.int .i64 r.off)
 c6:w.cell? ⟨b,o+6,none⟩=some (.int .i64 r.fr)
 c7:w.cell? ⟨b,o+7,none⟩=some (.int .i64 r.to)
 c8:w.cell? ⟨b,o+8,none⟩=some (.int .i64 r.mv)
theorem RCells.below {w d:World} {B b o:Nat} {r:Rul} (h:RCells w b o r) (a:Below B w d) (c:b<B):RCells d b o r:=
 ⟨(a.cell (p:=⟨b,o,none⟩) c).trans h.c0,(a.cell (p:=⟨b,o+1,none⟩) c).trans h.c1,(a.cell (p:=⟨b,o+2,none⟩) c).trans h.c2,(a.cell (p:=⟨b,o+3,none⟩) c).trans h.c3,(a.cell (p:=⟨b,o+4,none⟩) c).trans h.c4,(a.cell (p:=⟨b,o+5,none⟩) c).trans h.c5,(a.cell (p:=⟨b,o+6,none⟩) c).trans h.c6,(a.cell (p:=⟨b,o+7,none⟩) c).trans h.c7,(a.cell (p:=⟨b,o+8,none⟩) c).trans h.c8⟩
structure RSrc (w:World) (p:Option Addr) (b off:Nat) (rs:List Rul):Prop where
 at_:0<rs.length->p=some ⟨b,off,none⟩
 lt:0<rs.length->b<w.heap.size
 cell:∀ i,i<rs.length->RCells w b (off+i*9) (rs.getD i jF)
theorem RSrc.below {w a:World} {p:Option Addr} {b off:Nat} {rs:List Rul} (h:RSrc w p b off rs) (c:Below w.heap.size w a):RSrc a p b off rs:=
 ⟨h.at_,fun e=>Nat.lt_of_lt_of_le (h.lt e) c.size,fun j d=>(h.cell j d).below c (h.lt (by omega))⟩
open Classical in
noncomputable def yrI (n:Int):Int:=if h:∃ y m d,IsD n y m d then h.choose else 0
theorem uk {n y m d:Int} (h:IsD n y m d):yrI n=y:=by
 have a:∃ y m d,IsD n y m d:=⟨y,m,d,h⟩;unfold yrI;rw [dif_pos a];obtain⟨e,c,b⟩:=a.choose_spec;exact (b.unique h).1
noncomputable def opB (W:Int) (rs:List Rul) (n:Int):Bool:=!eN W n&&!wN W rs n (yrI n)
def an (n:Int):Prop:=0<=n/\n<=109572
instance (n:Int):Decidable (an n):=by unfold an;infer_instance
structure OkC (W:Int) (rs:List Rul):Prop where
 len:rs.length<=64
 w0:0<=W
 w1:W<=126
 fit:∀ r ∈ rs,cF r=true
inductive ChkR (W:Int) (rs:List Rul):Int->Int->Prop where
 | long:64<rs.length->ChkR W rs 2 0
 | week:rs.length<=64->¬ (0<=W/\W<=126)->ChkR W rs 60 (-1)
 | rule (k:Nat):rs.length<=64->(0<=W/\W<=126)->k<rs.length->cF (rs.getD k jF)=false->(∀ j<k,cF (rs.getD j jF)=true)->ChkR W rs 60 k
 | ok:OkC W rs->ChkR W rs 0 0
theorem ru {rs:List Rul} {k:Nat} (h:k<rs.length):rs.getD k jF ∈ rs:=by
 rw [List.getD_eq_getElem?_getD,List.getElem?_eq_getElem h];exact List.getElem_mem h
theorem Qh {W:Int} {rs:List Rul} {B:Int} (h:ChkR W rs 0 B):OkC W rs/\B=0:=by
 cases h with
 | ok h=>exact⟨h,rfl⟩
open Classical in
noncomputable def moI (n:Int):Int:=if h:∃ k,∃ y m d,IsD n y m d/\k=12*y+m then h.choose else 0
theorem QV {n y m d:Int} (h:IsD n y m d):moI n=12*y+m:=by
 have a:∃ k,∃ y m d,IsD n y m d/\k=12*y+m:=⟨_,y,m,d,h,rfl⟩;unfold moI;rw [dif_pos a];obtain⟨g,j,i,b,e⟩:=a.choose_spec;obtain⟨f,c,_⟩:=b.unique h;rw [e,f,c]
def cntN (op:Int->Bool) (a:Int):Nat->Nat
 | 0=>0
 | k+1=>cntN op a k+(if op (a+k) then 1 else 0)
theorem KZ (op:Int->Bool) (a:Int) (k:Nat):cntN op a k<=k:=by
 induction k with
 | zero=>exact Nat.le_refl _
 | succ k b=>show cntN op a k+(if op (a+k) then 1 else 0)<=k+1;split<;>omega
def rv (kind e f a c d b:Int):Int:=360*(c - e)+30*(d - f)+(if kind=5\/min a 30=30 then min b 30 else b) - min a 30
def rx (y n:Int):Int:=133590*(y - 1900)+(n - nyI y)*(366 - lpI y)
theorem La {y n:Int} (h:1900<=y) (c:y<=2200) (b:nyI y<=n) (a:n<=nyI (y+1)):0<=rx y n/\rx y n<=50000000:=by
 unfold rx;rw [mh h] at a
 rcases lp_cases y with e | e<;>rw [e] at a ⊢<;>constructor<;>omega
def CBox (w:World) (W:Int) (v:Value) (wr:World):Prop:=Below (w.heap.size+1) (w.alloc (.cells #[.int .i64 W,v] 96)) wr
theorem CBox.step {w wr a:World} {W:Int} {v:Value} (h:CBox w W v wr) (b:Below wr.heap.size wr a):CBox w W v a:=
 h.trans (b.mono (by have:=h.size;simp at this;omega))
theorem CBox.below {w wr:World} {W:Int} {v:Value} (h:CBox w W v wr):Below w.heap.size w wr:=
 ((Below.refl w.heap.size w).alloc (Nat.le_refl _) _).trans (h.mono (by omega))
theorem CBox.first {w a:World} {W:Int} {v:Value} (b:Below (w.alloc (.cells #[.int .i64 W,v] 96)).heap.size (w.alloc (.cells #[.int .i64 W,v] 96)) a):CBox w W v a:=
 b.mono (by simp)
structure HK (w:World) (W:Int) (v:Value) (b5:Nat) (Y m d:Int) (wr:World):Prop where
 box:CBox w W v wr
 d0:wr.cell? ⟨b5,0,none⟩=some (.int .i64 Y)
 d1:wr.cell? ⟨b5,1,none⟩=some (.int .i64 m)
 d2:wr.cell? ⟨b5,2,none⟩=some (.int .i64 d)
 lt:b5<wr.heap.size
theorem HK.step {w wr c:World} {W:Int} {v:Value} {a:Nat} {Y m d:Int} (h:HK w W v a Y m d wr) (b:Below wr.heap.size wr c):HK w W v a Y m d c:=
 ⟨h.box.step b,(b.cell (p:=⟨a,0,none⟩) h.lt).trans h.d0,(b.cell (p:=⟨a,1,none⟩) h.lt).trans h.d1,(b.cell (p:=⟨a,2,none⟩) h.lt).trans h.d2,Nat.lt_of_lt_of_le h.lt b.size⟩
structure HK2 (w:World) (W:Int) (v:Value) (b5:Nat) (Y m d:Int) (b8:Nat) (r:Rul) (wr:World):Prop where
 hk:HK w W v b5 Y m d wr
 rc:RCells wr b8 0 r
 lt8:b8<wr.heap.size
theorem HK2.step {w wr c:World} {W:Int} {v:Value} {b:Nat} {Y m d:Int} {e:Nat} {r:Rul} (h:HK2 w W v b Y m d e r wr) (a:Below wr.heap.size wr c):HK2 w W v b Y m d e r c:=
 ⟨h.hk.step a,h.rc.below a h.lt8,Nat.lt_of_lt_of_le h.lt8 a.size⟩
theorem HK2.first {w wr:World} {W:Int} {v:Value} {a:Nat} {Y m d:Int} {r:Rul} (h:HK w W v a Y m d wr) :
  HK2 w W v a Y m d wr.heap.size r (wr.alloc (.cells #[.int .i64 r.kind,.int .i64 r.mon,.int .i64 r.day,.int .i64 r.nth,.int .i64 r.wd,.int .i64 r.off,.int .i64 r.fr,.int .i64 r.to,.int .i64 r.mv] 235)):=
 ⟨h.step ((Below.refl _ wr).alloc (Nat.le_refl _) _),⟨by simp,by simp,by simp,by simp,by simp,by simp,by simp,by simp,by simp⟩,by simp⟩
theorem zL {a b:Bool} (h:a=b):Ending.returned (.bool a)=.returned (.bool b):=by rw [h]
theorem Rp (mon day nth wd off fr to mv:Int):cF ⟨4,mon,day,nth,wd,off,fr,to,mv⟩=decide (mon=0/\nth=0/\wd=0/\off=0/\fr=0/\to=0/\mv=0/\0<=day/\day<=109572):=by
 unfold cF;dsimp only;rw [if_pos rfl]
def Ck (fr to mv:Int):Prop:=1900<=fr/\fr<=2199/\fr<=to/\to<=2199/\0<=mv/\mv<=2
theorem wO {kind mon day nth wd off fr to mv:Int} (a:kind≠4) (h:¬ Ck fr to mv):cF ⟨kind,mon,day,nth,wd,off,fr,to,mv⟩=false:=by
 unfold cF;dsimp only;rw [if_neg a,show decide (1900<=fr/\fr<=2199/\fr<=to/\to<=2199/\0<=mv/\mv<=2)=false from decide_eq_false h,Bool.false_and]
theorem Rq {mon day nth wd off fr to mv:Int} (h:Ck fr to mv):cF ⟨1,mon,day,nth,wd,off,fr,to,mv⟩=decide (nth=0/\wd=0/\off=0/\1<=mon/\mon<=12/\1<=day/\day<=uj mon):=by
 unfold cF;dsimp only;rw [if_neg (by decide),show decide (1900<=fr/\fr<=2199/\fr<=to/\to<=2199/\0<=mv/\mv<=2)=true from decide_eq_true h,Bool.true_and,if_pos rfl]
theorem Rr {mon day nth wd off fr to mv:Int} (h:Ck fr to mv):cF ⟨2,mon,day,nth,wd,off,fr,to,mv⟩=decide (day=0/\off=0/\1<=mon/\mon<=12/\0<=wd/\wd<=6/\1<=nth/\nth<=5):=by
 unfold cF;dsimp only;rw [if_neg (by decide),show decide (1900<=fr/\fr<=2199/\fr<=to/\to<=2199/\0<=mv/\mv<=2)=true from decide_eq_true h,Bool.true_and,if_neg (by decide),if_pos rfl]
theorem Rs {mon day nth wd off fr to mv:Int} (h:Ck fr to mv):cF ⟨3,mon,day,nth,wd,off,fr,to,mv⟩=decide (mon=0/\day=0/\nth=0/\wd=0/\-100<=off/\off<=100):=by
 unfold cF;dsimp only;rw [if_neg (by decide),show decide (1900<=fr/\fr<=2199/\fr<=to/\to<=2199/\0<=mv/\mv<=2)=true from decide_eq_true h,Bool.true_and,if_neg (by decide),if_neg (by decide),if_pos rfl]
theorem Qi {kind mon day nth wd off fr to mv:Int} (d:kind≠1) (c:kind≠2) (b:kind≠3) (a:kind≠4):cF ⟨kind,mon,day,nth,wd,off,fr,to,mv⟩=false:=by
 unfold cF;dsimp only;rw [if_neg a,if_neg d,if_neg c,if_neg b,Bool.and_false]
theorem below_drewN' {B:Nat} {w b:World} {n:Nat} (a:Below B w b):Below B w (b.drewN n):=⟨a.os,a.tape,a.output,a.size,a.block⟩
theorem zM {w:World} {v:Value} (cs:Array Value) (t:TypeId) (k:Nat) (h:cs[k]? =some v) {o:Obj}:((w.alloc o).alloc (.cells cs t)).cell? ⟨w.heap.size+1,k,none⟩=some v:=by
 rw [show w.heap.size+1=(w.alloc o).heap.size by simp]
 simp [h]
noncomputable def moD (n:Int):Int:=moI n - 12*yrI n
noncomputable def daD (n:Int):Int:=n - nyI (yrI n) - cI (yrI n) (moD n)+1
theorem pc {n y m d:Int} (h:IsD n y m d):yrI n=y/\moD n=m/\daD n=d:=by
 have a:=uk h;have b:moD n=m:=by unfold moD;rw [QV h,a];omega
 refine⟨a,b,?_⟩
 unfold daD;rw [a,b];have:=h.2;unfold aW at this
 omega
noncomputable def jb (op:Int->Bool) (kind a b:Int):Int:=
 if kind=1\/kind=2 then b - a else if kind=3 then rx (yrI b) b - rx (yrI a) a else if kind=6 then (cntN op a (b - a).toNat:Nat) else rv kind (yrI a) (moD a) (daD a) (yrI b) (moD b) (daD b)
def eS (kind:Int):Int:=if kind=2 then 365 else if kind=3 then 133590 else if kind=6 then 252 else 360
structure PBoxN (w:World) (W:Int) (v:Value) (wr:World):Prop where
 a0:wr.cell? ⟨w.heap.size,0,none⟩=some (.int .i64 W)
 a1:wr.cell? ⟨w.heap.size,1,none⟩=some v
 d0:wr.cell? ⟨w.heap.size+1,0,none⟩=some (.int .i64 0)
 d1:wr.cell? ⟨w.heap.size+1,1,none⟩=some (.int .i64 0)
 f0:wr.frozen? ⟨w.heap.size+1,0,none⟩=false
 f1:wr.frozen? ⟨w.heap.size+1,1,none⟩=false
 bl:Below w.heap.size w wr
 sz:w.heap.size+2<=wr.heap.size
theorem PBoxN.step {w wr a:World} {W:Int} {v:Value} (h:PBoxN w W v wr) (b:Below wr.heap.size wr a):PBoxN w W v a:=by
 have e:=h.sz;have c:∀ k<w.heap.size+2,∀ j,a.cell? ⟨k,j,none⟩=wr.cell? ⟨k,j,none⟩:=fun k d j=>b.cell (p:=⟨k,j,none⟩) (by show k<_;omega)
 have f:∀ k<w.heap.size+2,∀ j,a.frozen? ⟨k,j,none⟩=wr.frozen? ⟨k,j,none⟩:=fun k d j=>b.frozen (p:=⟨k,j,none⟩) (by show k<_;omega)
 exact⟨(c _ (by omega) _).trans h.a0,(c _ (by omega) _).trans h.a1,(c _ (by omega) _).trans h.d0,(c _ (by omega) _).trans h.d1,(f _ (by omega) _).trans h.f0,(f _ (by omega) _).trans h.f1,h.bl.trans (b.mono h.bl.size),Nat.le_trans h.sz b.size⟩
def Cl (a b:Int):Prop:=¬ (an a/\an b)
theorem ml (op:Int->Bool) {kind a b:Int} (f:an a) (e:an b) (v:a<=b): -1000000000<=jb op kind a b/\jb op kind a b<=1000000000:=by
 obtain⟨h,l,P,g⟩:=iQ f.1 f.2;obtain⟨i,j,M,d⟩:=iQ e.1 e.2;obtain⟨m,r,s⟩:=pc g;obtain⟨k,u,o⟩:=pc d;unfold jb;rw [m,r,s,k,u,o];have p:=g.year;have t:=d.year;obtain⟨⟨w,F,x,L,N,B⟩,_⟩:=g;obtain⟨⟨q,C,R,I,J,A⟩,_⟩:=d;have D:=jB h l;have O:=jB i j;have c:=KZ op a (b - a).toNat;have E:=La (y:=h) (n:=a) w (by omega) p.1 (by omega)
 have H:=La (y:=i) (n:=b) q (by omega) t.1 (by omega)
 obtain⟨Q,z⟩:=f;obtain⟨G,K⟩:=e
 split
 ·omega
 ·split
  ·omega
  ·split
   ·omega
   ·unfold rv
    split<;>omega
noncomputable def jG (op:Int->Bool) (kind a b:Int):Int:=if b<a then -jb op kind b a else jb op kind a b
theorem zN (op:Int->Bool) {kind a b:Int} (d:an a) (c:an b): -1000000000<=jG op kind a b/\jG op kind a b<=1000000000:=by
 unfold jG
 split
 ·have:=ml op (kind:=kind) c d (by omega);omega
 ·exact ml op d c (by omega)
theorem ur (n:Int) (w:World) :
  Calls Tryz.prog 189 #[.int .i64 n] w fun e a=>e=.returned (.bool (decide (0<=n/\n<=109572)))/\a=w:=by
 by_cases c:0<=n<;>by_cases b:n<=109572
 all_goals
  first | rw [decide_eq_true (⟨c,b⟩:0<=n/\n<=109572)] | rw [decide_eq_false (fun h:0<=n/\n<=109572=>by omega)]
  go_enter Tryz.func189,Tryz.ntmps189
  go_wp2
  go_ret
  exact⟨rfl,rfl⟩
theorem Gx (n:Int) (h:0<=n/\n<=109572) (w:World) :
  Calls Tryz.prog 189 #[.int .i64 n] w fun e a=>e=.returned (.bool true)/\a=w:=by
 have e:=ur n w;rw [decide_eq_true h] at e;exact e
theorem Lc (n:Int) (h:¬ (0<=n/\n<=109572)) (w:World) :
  Calls Tryz.prog 189 #[.int .i64 n] w fun e a=>e=.returned (.bool false)/\a=w:=by
 have e:=ur n w;rw [decide_eq_false h] at e;exact e
theorem Cm (n y:Int) (w:World) (o:1900<=y) (t:y<=2199) (k:nyI y<=n) (c:n<nyI (y+1)) :
  Calls Tryz.prog 190 #[.int .i64 n] w fun e f=>e=.returned (.int .i64 y)/\f=w:=by
 have u:0<=n:=by have:=nY o;omega
 have v:n<=120000:=by have:=nZ (y:=y+1) (by omega);omega
 have q:1900+n / 366<=y:=by have:=nZ (y:=y+1) (by omega);omega
 have m:=hideS (fun (z:Int) (g:World) (a:1900<=z) (b:z<=2200)=>jD z g a b)
 have s:=hideS k;have d:=hideS c;clear k c
 go_enter Tryz.func190,Tryz.ntmps190
 go_wp2_with fail
 go_loop [3] (fun i=>∃ (j:Int),1900<=j/\j<=y/\i=.int .i64 j) (fun i=>(y - intOf i).toNat)
 case atStart=>exact⟨1900+n / 366,by omega,q,rfl⟩
 case round=>
  obtain⟨j,r,p,rfl⟩:=hrel;have H:=hideS (fun g=>m.out (j+1) g (by omega) (by omega))
  by_cases l:j<y
  ·have h:nyI (j+1)<=n:=by
    have:=eY (y:=j+1) (z:=y) (by omega) (by omega)
    have:=s.out;omega
   generalize nyI (j+1)=N at *
   go_wp2_with (go_at_call 192;refine (H.out _).mono ?_;rintro e f ⟨rfl,rfl⟩)
   go_round
   case rel=>exact⟨j+1,by omega,by omega,rfl⟩
   case measure=>simp [intOf];omega
  ·obtain rfl:j=y:=by omega
   have h:¬ nyI (j+1)<=n:=by have:=d.out;omega
   clear d;generalize nyI (j+1)=N at *
   go_wp2_with (go_at_call 192;refine (H.out _).mono ?_;rintro e f ⟨rfl,rfl⟩)
   go_ret
   exact⟨rfl,rfl⟩
theorem oI (y m r:Int) (w:World) (A:1<=m) (G:m<=12) (c:cI y m<=r) (f:r<cI y (m+1)) :
  Calls Tryz.prog 191 #[.int .i64 y,.int .i64 r] w fun e o=>e=.returned (.tuple #[.int .i64 m,.int .i64 (r - cI y m+1)])/\o=w:=by
 have K:0<=r:=by have:=Ch (y:=y) A (by omega);omega
 have J:r<=366:=by have:=KU (y:=y) (m:=m+1) (by omega) (by omega);omega
 have d:=hideS (fun (k:Int) (p:World) (a:1<=k) (b:k<=12)=>kX y k p a b)
 have u:=hideS c;have g:=hideS f;clear c f;obtain⟨D,n⟩:∃ D,r - cI y m+1=D:=⟨_,rfl⟩;rw [n];have v:=hideS n;clear n
 go_enter Tryz.func191,Tryz.ntmps191
 go_wp2_with fail
 go_loop [7,1,4] (fun i b _=>∃ (k:Int) (C:Int),0<=k/\k+1<=m/\0<=C/\C<=366/\i=.int .i64 k/\b=.int .i64 C/\Hid (C=r - cI y (k+1))) (fun i _ _=>(m - intOf i).toNat)
 case atStart=>exact⟨0,r,by omega,by omega,by omega,by omega,rfl,rfl,by show _=_;rw [show ((0:Int)+1)=1 by rfl,fy];omega⟩
 case round=>
  obtain⟨k,C,z,L,B,F,rfl,rfl,h⟩:=hrel;have H:=hideS (fun p=>d.out (k+1) p (by omega) (by omega))
  have I:=jA y (k+1);have q:Hid (cI y (k+1+1)=cI y (k+1)+cK y (k+1)):=ia (m:=k+1) (by omega) (by omega)
  by_cases x:k+1<m
  ·have t:¬ C<cK y (k+1):=by
    have:=ic (y:=y) (m:=k+1+1) (k:=m) (by omega) (by omega) (by omega)
    have:=u.out;have:=q.out;have:=h.out;omega
   have j:Hid (C - cK y (k+1)=r - cI y (k+1+1)):=by
    show _=_
    rw [q.out,h.out];omega
   generalize cK y (k+1)=l at *
   go_wp2_with (go_at_call 206;refine (H.out _).mono ?_;rintro e o ⟨rfl,rfl⟩)
   go_round
   case rel=>exact⟨k+1,C - l,by omega,by omega,by omega,by omega,rfl,rfl,j⟩
   case measure=>simp [intOf];omega
  ·have t:C<cK y (k+1):=by
    have:=g.out;rw [show m+1=k+1+1 by omega,q.out] at this
    have:=h.out;omega
   have c:m=k+1:=by omega
   have E:Hid (C+1=D):=by
    show _=_
    rw [<- v.out,h.out,c]
   have s:=hideS c;clear c v h u g;generalize cK y (k+1)=l at *
   go_wp2_with (go_at_call 206;refine (H.out _).mono ?_;rintro e o ⟨rfl,rfl⟩)
   go_ret2
   obtain rfl:=E.out;obtain rfl:=s.out;exact⟨rfl,rfl⟩
theorem mn {b:Func} {t u v x:Tmp} (h:b.results=#[.tmp t,.tmp u,.tmp v,.tmp x]) (a:Array Value) (P:Program) (w:World) :
  (results b a).run P w=.ok (.tuple #[a.getD t undef,a.getD u undef,a.getD v undef,a.getD x undef]) w:=by
 simp [results,h]
theorem ie (n y m d:Int) (w:World) (h:IsD n y m d) :
  Calls Tryz.prog 170 #[.int .i64 n] w fun e c=>e=.returned (.tuple #[.int .i64 y,.int .i64 m,.int .i64 d,.int .i64 0])/\c=w:=by
 obtain⟨q,u⟩:=h.range;obtain⟨a,b⟩:=h.year;obtain⟨k,o⟩:=h.month;have v:=hideS (Gx n ⟨q,u⟩);have l:n - nyI y - cI y m+1=d:=by have:=h.2;unfold aW at this;omega
 obtain⟨g,p,j,r,_,_⟩:=h.1;clear h;have t:=hideS (fun f=>Cm n y f g p a b)
 have s:=hideS (fun f=>jD y f g (by omega))
 have i:=fun f=>oI y m (n - nyI y) f j r k o
 rw [l] at i
 have x:=hideS i;have c1:=Ch (y:=y) j (by omega)
 have z:=nY g;clear i l b o k;generalize nyI y=N at *
 go_enter Tryz.func170,Tryz.ntmps170
 go_wp2_with (first | (go_at_call 189;refine (v.out _).mono ?_;rintro e c ⟨rfl,rfl⟩) | (go_at_call 190;refine (t.out _).mono ?_;rintro e c ⟨rfl,rfl⟩) | (go_at_call 192;refine (s.out _).mono ?_;rintro e c ⟨rfl,rfl⟩) | (go_at_call 191;refine (x.out _).mono ?_;rintro e c ⟨rfl,rfl⟩))
 (try simp only [Exit.inBlock,Exit.then])
 refine bodyPost_ret (mn rfl _ _ _) rfl ?_
 exact⟨rfl,rfl⟩
theorem us (n:Int) (w:World) (h:¬ (0<=n/\n<=109572)) :
  Calls Tryz.prog 170 #[.int .i64 n] w fun e a=>e=.returned (.tuple #[.int .i64 0,.int .i64 0,.int .i64 0,.int .i64 51])/\a=w:=by
 have b:=hideS (Lc n h);clear h
 go_enter Tryz.func170,Tryz.ntmps170
 go_wp2_with (go_at_call 189;refine (b.out _).mono ?_;rintro e a ⟨rfl,rfl⟩)
 (try simp only [Exit.inBlock,Exit.then])
 refine bodyPost_ret (mn rfl _ _ _) rfl ?_
 exact⟨rfl,rfl⟩
open Classical in
noncomputable def cB (r:Rul) (y:Int):Option Int:=if r.kind=4 then (if yrI r.day=y then some r.day else none) else oa r y
noncomputable def mkB (W:Int) (r:Rul) (y n:Int):Bool:=(cB r y).map (fun g=>mvI W g r.mv)==some n
noncomputable def mkT (W:Int) (r:Rul) (Y n:Int):Nat->Bool
 | 0=>false
 | t+1=>mkT W r Y n t||mkB W r (Y - 1+t) n
noncomputable def mkK (W:Int) (rs:List Rul) (Y n:Int):Nat->Bool
 | 0=>false
 | k+1=>mkK W rs Y n k||mkT W (rs.getD k jF) Y n 3
theorem NQ {W n:Int} (b:0<=W) (c:W<=126):mvI W n 0=n:=by
 obtain⟨u,d,a⟩:=rq b c n;rw [zK a];unfold cU;rw [if_pos (Or.inl rfl)]
theorem NR {W:Int} {r:Rul} {Y n:Int} (f:0<=W) (i:W<=126) (g:cF r=true) (h:yrI n=Y):mkT W r Y n 3=NO W r n Y:=by
 show (((false||mkB W r (Y - 1+((0:Nat):Int)) n)||mkB W r (Y - 1+((1:Nat):Int)) n)||mkB W r (Y - 1+((2:Nat):Int)) n)=_
 rw [show Y - 1+((0:Nat):Int)=Y - 1 by omega,show Y - 1+((1:Nat):Int)=Y by omega,show Y - 1+((2:Nat):Int)=Y+1 by omega,Bool.false_or]
 unfold NO
 by_cases c:r.kind=4
 ·rw [if_pos c];have d:r.mv=0:=by
   rcases fit_cases g with⟨_,_,_,a⟩| ⟨_,⟨a,_⟩| ⟨a,_⟩| ⟨a,_⟩⟩
   ·exact a
   ·omega
   ·omega
   ·omega
  have b:∀ y,mkB W r y n=(decide (yrI r.day=y)&&(r.day==n)):=fun y=>by
   unfold mkB cB;rw [if_pos c]
   by_cases e:yrI r.day=y
   ·rw [if_pos e,Option.map_some,d,NQ f i,decide_eq_true e,Bool.true_and];rfl
   ·rw [if_neg e,decide_eq_false e,Bool.false_and];rfl
  rw [b,b,b]
  by_cases e:r.day=n
  ·rw [e,h,decide_eq_true (rfl:Y=Y)];simp
  ·rw [beq_eq_false_iff_ne.2 e];simp
 ·rw [if_neg c];have b:∀ y,mkB W r y n=(KY W r y==some n):=fun y=>by
   unfold mkB cB KY;rw [if_neg c]
  rw [b,b,b]
theorem NS {W:Int} {rs:List Rul} {Y n:Int} (b:0<=W) (g:W<=126) (c:∀ r ∈ rs,cF r=true) (f:yrI n=Y):mkK W rs Y n rs.length=wN W rs n Y:=by
 have a:∀ k,k<=rs.length->mkK W rs Y n k=(rs.take k).any fun r=>NO W r n Y:=fun k=>by
  induction k with
  | zero=>intro _;rfl
  | succ k d=>
   intro h;have e:rs[k]? =some (rs.getD k jF):=by simp [List.getD,List.getElem?_eq_getElem (show k<rs.length by omega)]
   show (mkK W rs Y n k||mkT W (rs.getD k jF) Y n 3)=_
   rw [d (by omega),NR b g (c _ (ru (by omega))) f,List.take_add_one,e,List.any_append]
   simp
 rw [a _ (Nat.le_refl _),List.take_length]
 rfl
theorem OM {n Y:Int} (y0:1900<=Y) (y1:Y<=2199) (h:nyI Y<=n) (i:n<nyI (Y+1)):yrI n=Y:=by
 have a:=eY (y:=1900) (z:=Y) (by omega) y0
 have b:=eY (y:=Y+1) (z:=2200) (by omega) (by omega)
 rw [ro] at a
 rw [wM] at b
 obtain⟨y,m,d,c⟩:=iQ (n:=n) (by omega) (by omega)
 rw [uk c];have g:=c.year;have f:=c.1.1;rcases Int.lt_trichotomy y Y with e | e | e
 ·have:=eY (y:=y+1) (z:=Y) (by omega) (by omega);omega
 ·exact e
 ·have:=eY (y:=Y+1) (z:=y) (by omega) (by omega);omega
theorem QW {n:Int} (hn:an n):1900<=yrI n/\yrI n<=2199/\nyI (yrI n)<=n/\n<nyI (yrI n+1):=by
 obtain⟨y,m,d,a⟩:=iQ hn.1 hn.2;rw [uk a];exact⟨a.1.1,a.1.2.1,a.year⟩
theorem Gy (Y:Int):aW Y 1 1=nyI Y:=by unfold aW;rw [fy];omega
theorem Le {Y:Int} (h:1900<=Y):aW Y 12 31=nyI (Y+1) - 1:=by
 have e:=ia (y:=Y) (m:=12) (by omega) (by omega)
 rw [show (12+1:Int)=13 by decide,mj] at e
 have a:cK Y 12=31:=by unfold cK;rw [if_neg (by decide),if_neg (by decide)]
 rw [mh h];unfold aW;omega
theorem Co {Y:Int} (y0:1900<=Y) (y1:Y<=2199):okD Y 1 1:=⟨y0,y1,by decide,by decide,by decide,by have:=jA Y 1;omega⟩
theorem Lf {Y:Int} (y0:1900<=Y) (y1:Y<=2199):okD Y 12 31:=⟨y0,y1,by decide,by decide,by decide,by unfold cK;rw [if_neg (by decide),if_neg (by decide)];decide⟩
theorem Lg {W:Int} {r:Rul} {y n:Int} (h:cB r y=none):mkB W r y n=false:=by unfold mkB;rw [h];rfl
theorem zS {W:Int} {r:Rul} {y n g:Int} (h:cB r y=some g):mkB W r y n=decide (mvI W g r.mv=n):=by
 unfold mkB;rw [h,Option.map_some]
 by_cases e:mvI W g r.mv=n
 ·rw [e,decide_eq_true rfl];simp
 ·rw [decide_eq_false e];simpa using e
theorem aJ (n lo hi:Int) (w:World) :
  Calls Tryz.prog 209 #[.int .i64 n,.int .i64 lo,.int .i64 hi] w fun e a=>e=.returned (.bool (decide (lo<=n/\n<=hi)))/\a=w:=by
 by_cases c:lo<=n<;>by_cases b:n<=hi
 all_goals
  first | rw [decide_eq_true (⟨c,b⟩:lo<=n/\n<=hi)] | rw [decide_eq_false (fun h:lo<=n/\n<=hi=>by omega)]
  go_enter Tryz.func209,Tryz.ntmps209
  go_wp2
  go_ret
  exact⟨rfl,rfl⟩
theorem rz (n:Int) (w:World) :
  Calls Tryz.prog 194 #[.int .i64 n] w fun e a=>e=.returned (.bool (decide (an n)))/\a=w:=by
 have c:=hideS (fun b=>aJ n 0 109572 b)
 rw [show decide (an n)=decide (0<=n/\n<=109572) from decide_eq_decide.2 Iff.rfl]
 generalize decide (0<=n/\n<=109572)=R at *
 go_enter Tryz.func194,Tryz.ntmps194
 go_wp2_with (go_at_call 209;refine (c.out _).mono ?_;rintro e d ⟨rfl,rfl⟩)
 go_ret
 exact⟨rfl,rfl⟩
theorem Lh (n:Int):bits .and .i64 n 1=n % 2:=by
 have b:(BitVec.ofInt 64 1).toNat=2^1 - 1:=by decide
 have a:(BitVec.ofInt 64 n&&& BitVec.ofInt 64 1).toNat=(n % ((2^64:Nat):Int)).toNat % 2^1:=by
  rw [BitVec.toNat_and,BitVec.toNat_ofInt,b,Nat.and_two_pow_sub_one_eq_mod]
 show IntKind.i64.wrap ((BitVec.ofInt 64 n&&& BitVec.ofInt 64 1).toNat:Nat)=n % 2
 rw [a,IntKind.wrap_i64];omega
theorem kB (W n:Int) (w:World) (i: -7<=n) (h:n<=1000000) :
  Calls Tryz.prog 210 #[.int .i64 W,.int .i64 n] w fun e f=>e=.returned (.bool (eN W n))/\f=w:=by
 obtain⟨k,b⟩:∃ k:Nat,n % 7=k:=⟨(n % 7).toNat,by omega⟩
 have g:(n+7) % 7=(k:Int):=by omega
 have d:k<=6:=by omega
 have c:=Lh (W / 2^k);unfold eN;rw [b];have a:Hid ((W / ((2^(((k:Nat):Int)).toNat:Nat):Int) % 2==1)=(W / 2^k % 2==1)):=by
  show _=_
  rw [Int.toNat_natCast,Int.natCast_pow];rfl
 clear b;rw [a.out];clear a
 go_enter Tryz.func210,Tryz.ntmps210
 go_wp2_with fail
 go_ret
 exact⟨rfl,rfl⟩
theorem Li {W n mv:Int} {u d:Nat} (a:Ups W n u d) (b:u=0):cU W n mv u d=n:=by
 unfold cU;rw [if_pos (Or.inr (by have:=a.uf;rw [b] at this;simpa using this))]
theorem Qj {W n mv:Int} {u d:Nat} (b:Ups W n u d) (e:mv≠0) (f:mv=2->u<=d):cU W n mv u d=n+u:=by
 by_cases c:u=0
 ·rw [Li b c,c];omega
 ·unfold cU;have g:eN W n=true:=by have:=b.uo 0 (by omega);simpa using this
  rw [if_neg (fun a=>by
   rcases a with a | a
   ·exact e a
   ·rw [g] at a;exact Bool.noConfusion a),if_neg (fun a=>by have:=f a.1;omega)]
theorem Lj {W n mv:Int} {u d:Nat} (b:Ups W n u d) (c:mv=2) (f:d<u):cU W n mv u d=n - d:=by
 unfold cU;have e:eN W n=true:=by have:=b.uo 0 (by omega);simpa using this
 rw [if_neg (fun a=>by
   rcases a with a | a
   ·omega
   ·rw [e] at a;exact Bool.noConfusion a),if_pos ⟨c,by omega⟩]
theorem kh (W n mv:Int) (u d:Nat) (w:World) (I: -1<=n) (J:n<=500000) (r:Ups W n u d) :
  Calls Tryz.prog 226 #[.int .i64 n,.int .i64 mv,.int .i64 W] w fun e c=>e=.returned (.int .i64 (cU W n mv u d))/\c=w:=by
 have A:Hid (∀ x f,-7<=x->x<=1000000->Calls Tryz.prog 210 #[.int .i64 W,.int .i64 x] f fun e c=>e=.returned (.bool (eN W x))/\c=f):=fun x f a b=>kB W x f a b
 have j:=hideS r;have G:=r.ub;have H:=r.db;obtain⟨R,t⟩:∃ R,cU W n mv u d=R:=⟨_,rfl⟩;rw [t];have y:=hideS t;clear t r
 by_cases m:mv=0
 ·have p:Hid (n=R):=by
   show _=_
   rw [<- y.out];unfold cU;rw [if_pos (Or.inl m)]
  subst m
  go_enter Tryz.func226,Tryz.ntmps226
  go_wp2_with fail
  go_ret
  obtain rfl:=p.out;exact⟨rfl,rfl⟩
 ·have D:(mv==0)=false:=beq_eq_false_iff_ne.2 m;have F:=hideS m;clear m
  go_enter Tryz.func226,Tryz.ntmps226
  go_wp2_with fail
  go_loop [11] (fun i=>∃ (k:Nat),k<=u/\i=.int .i64 k/\Hid (mv=2->k<=d)) (fun i=>u+1 - (intOf i).toNat)
  case atStart=>exact⟨0,by omega,rfl,fun _=>by omega⟩
  case round=>
   obtain⟨k,K,rfl,HK⟩:=hrel;have B:(k:Int)<7:=by omega
   have h:=hideS (fun f=>A.out (n+k) f (by omega) (by omega))
   by_cases l:k<u
   ·have o:eN W (n+k)=true:=j.out.uo k l;rw [o] at h
    clear o
    by_cases g:mv=2
    ·have s:=hideS (fun f=>A.out (n - k) f (by omega) (by omega))
     have E:=HK.out g
     by_cases v:k<d
     ·have q:eN W (n - k)=true:=j.out.dn k v;rw [q] at s
      clear q;subst g
      go_wp2_with (first | (go_at_call_of 210 (Value.int IntKind.i64 (n+k));refine (h.out _).mono ?_;rintro e c ⟨rfl,rfl⟩) | (go_at_call_of 210 (Value.int IntKind.i64 (n - k));refine (s.out _).mono ?_;rintro e c ⟨rfl,rfl⟩))
      go_round
      case rel=>exact⟨k+1,by omega,by go_num,fun _=>by omega⟩
      case measure=>simp [intOf];omega
     ·obtain rfl:k=d:=by omega
      have q:eN W (n - k)=false:=j.out.df;rw [q] at s
      clear q;have p:Hid (n - k=R):=by
       show _=_
       rw [<- y.out,Lj j.out g l]
      subst g
      go_wp2_with (first | (go_at_call_of 210 (Value.int IntKind.i64 (n+k));refine (h.out _).mono ?_;rintro e c ⟨rfl,rfl⟩) | (go_at_call_of 210 (Value.int IntKind.i64 (n - k));refine (s.out _).mono ?_;rintro e c ⟨rfl,rfl⟩))
      go_ret
      obtain rfl:=p.out;exact⟨rfl,rfl⟩
    ·have C:(mv==2)=false:=beq_eq_false_iff_ne.2 g;have z:Hid (mv=2->k+1<=d):=fun a=>absurd a g
     clear g
     go_wp2_with (go_at_call 210;refine (h.out _).mono ?_;rintro e c ⟨rfl,rfl⟩)
     go_round
     case rel=>exact⟨k+1,by omega,by go_num,z⟩
     case measure=>simp [intOf];omega
   ·obtain rfl:k=u:=by omega
    have o:eN W (n+k)=false:=j.out.uf;rw [o] at h
    clear o;have p:Hid (n+k=R):=by
     show _=_
     rw [<- y.out,Qj j.out F.out HK.out]
    go_wp2_with (go_at_call 210;refine (h.out _).mono ?_;rintro e c ⟨rfl,rfl⟩)
    go_ret
    obtain rfl:=p.out;exact⟨rfl,rfl⟩
theorem QX (mon day nth wd off fr to mv:Int):cF ⟨1,mon,day,nth,wd,off,fr,to,mv⟩=decide ((1900<=fr/\fr<=2199/\fr<=to/\to<=2199/\0<=mv/\mv<=2)/\nth=0/\wd=0/\off=0/\1<=mon/\mon<=12/\1<=day/\day<=uj mon):=by
 by_cases h:Ck fr to mv
 ·rw [Rq h];exact decide_eq_decide.2 ⟨fun a=>⟨h,a⟩,fun a=>a.2⟩
 ·rw [wO (by decide) h,decide_eq_false (fun a=>h a.1)]
theorem QY (mon day nth wd off fr to mv:Int):cF ⟨2,mon,day,nth,wd,off,fr,to,mv⟩=decide ((1900<=fr/\fr<=2199/\fr<=to/\to<=2199/\0<=mv/\mv<=2)/\day=0/\off=0/\1<=mon/\mon<=12/\0<=wd/\wd<=6/\1<=nth/\nth<=5):=by
 by_cases h:Ck fr to mv
 ·rw [Rr h];exact decide_eq_decide.2 ⟨fun a=>⟨h,a⟩,fun a=>a.2⟩
 ·rw [wO (by decide) h,decide_eq_false (fun a=>h a.1)]
theorem QZ (mon day nth wd off fr to mv:Int):cF ⟨3,mon,day,nth,wd,off,fr,to,mv⟩=decide ((1900<=fr/\fr<=2199/\fr<=to/\to<=2199/\0<=mv/\mv<=2)/\mon=0/\day=0/\nth=0/\wd=0/\-100<=off/\off<=100):=by
 by_cases h:Ck fr to mv
 ·rw [Rs h];exact decide_eq_decide.2 ⟨fun a=>⟨h,a⟩,fun a=>a.2⟩
 ·rw [wO (by decide) h,decide_eq_false (fun a=>h a.1)]
theorem iR (w:World) (b a:Obj):Below w.heap.size w ((w.alloc b).alloc a):=((Below.refl w.heap.size w).alloc (Nat.le_refl _) _).alloc (by simp) _
theorem Cp (n:Int) (w:World) :
  Calls Tryz.prog 194 #[.int .i64 n] w fun e a=>e=.returned (.bool (decide (0<=n/\n<=109572)))/\a=w:=by
 have:=rz n w;rw [show decide (an n)=decide (0<=n/\n<=109572) from decide_eq_decide.2 Iff.rfl] at this
 exact this
theorem nA (kind mon day nth wd off fr to mv:Int) (w:World) :
  Calls Tryz.prog 254 #[.agg #[.int .i64 kind,.int .i64 mon,.int .i64 day,.int .i64 nth,.int .i64 wd,.int .i64 off,.int .i64 fr,.int .i64 to,.int .i64 mv]] w fun e b=>e=.returned (.bool (decide (1900<=fr/\fr<=2199/\fr<=to/\to<=2199/\0<=mv/\mv<=2)))/\Below w.heap.size w b:=by
 obtain⟨R,a⟩:∃ R,decide (1900<=fr/\fr<=2199/\fr<=to/\to<=2199/\0<=mv/\mv<=2)=R:=⟨_,rfl⟩;rw [a];have c:=hideS a;clear a
 go_enter Tryz.func254,Tryz.ntmps254
 go_wp2_with (go_at_call 209;refine (aJ _ _ _ _).mono ?_;rintro e d ⟨rfl,rfl⟩)
 all_goals
  go_ret
  refine⟨zL (Eq.trans ?_ c.out),(Below.refl w.heap.size w).alloc (Nat.le_refl _) _⟩
  first | exact (decide_eq_false (by omega)).symm | exact decide_eq_decide.2 (by omega) | (rw [Bool.eq_iff_iff];simp only [Bool.and_eq_true,decide_eq_true_eq];omega)
theorem Lk {m:Int} (a:1<=m) (b:m<=12):cK 2000 m=uj m:=by
 rcases month_cases a b with rfl | rfl | rfl | rfl | rfl | rfl | rfl | rfl | rfl | rfl | rfl | rfl<;>decide
theorem Ll (mon day nth wd off fr to mv:Int) (w:World) :
  Calls Tryz.prog 262 #[.agg #[.int .i64 4,.int .i64 mon,.int .i64 day,.int .i64 nth,.int .i64 wd,.int .i64 off,.int .i64 fr,.int .i64 to,.int .i64 mv]] w fun e b=>e=.returned (.bool (cF ⟨4,mon,day,nth,wd,off,fr,to,mv⟩))/\Below w.heap.size w b:=by
 rw [Rp];obtain⟨R,a⟩:∃ R,decide (mon=0/\nth=0/\wd=0/\off=0/\fr=0/\to=0/\mv=0/\0<=day/\day<=109572)=R:=⟨_,rfl⟩;rw [a];have c:=hideS a;clear a
 go_enter Tryz.func262,Tryz.ntmps262
 go_wp2_with (go_at_call 194;refine (Cp _ _).mono ?_;rintro e d ⟨rfl,rfl⟩)
 all_goals
  go_ret
  refine⟨zL (Eq.trans ?_ c.out),(Below.refl w.heap.size w).alloc (Nat.le_refl _) _⟩
  first | exact (decide_eq_false (by omega)).symm | exact decide_eq_decide.2 (by omega) | (rw [Bool.eq_iff_iff];simp only [Bool.and_eq_true,decide_eq_true_eq];omega)
theorem Lm (mon day nth wd off fr to mv:Int) (w:World) :
  Calls Tryz.prog 258 #[.agg #[.int .i64 3,.int .i64 mon,.int .i64 day,.int .i64 nth,.int .i64 wd,.int .i64 off,.int .i64 fr,.int .i64 to,.int .i64 mv]] w fun e i=>e=.returned (.bool (cF ⟨3,mon,day,nth,wd,off,fr,to,mv⟩))/\Below w.heap.size w i:=by
 rw [QZ];obtain⟨R,c⟩:∃ R,decide ((1900<=fr/\fr<=2199/\fr<=to/\to<=2199/\0<=mv/\mv<=2)/\mon=0/\day=0/\nth=0/\wd=0/\-100<=off/\off<=100)=R:=⟨_,rfl⟩;rw [c];have f:=hideS c;clear c;have a:=hideS (iR w);have g:=hideS (fun b mon day nth wd off fr to mv j=>nA b mon day nth wd off fr to mv j)
 go_enter Tryz.func258,Tryz.ntmps258
 go_wp2_with (first | (go_at_call 209;refine (aJ _ _ _ _).mono ?_;rintro e h ⟨rfl,rfl⟩) | (go_at_call 254;refine (g.out _ _ _ _ _ _ _ _ _ _).mono ?_;rintro e h ⟨rfl,d⟩))
 all_goals
  go_ret
  first
  | refine⟨zL (Eq.trans ?_ f.out),a.out _ _⟩
  | refine⟨zL (Eq.trans ?_ f.out),(a.out _ _).trans (d.mono (by simp<;>omega))⟩
  first | exact (decide_eq_false (by omega)).symm | exact decide_eq_decide.2 (by omega) | (rw [Bool.eq_iff_iff];simp only [Bool.and_eq_true,decide_eq_true_eq];omega)
theorem Ln (mon day nth wd off fr to mv:Int) (w:World) :
  Calls Tryz.prog 256 #[.agg #[.int .i64 2,.int .i64 mon,.int .i64 day,.int .i64 nth,.int .i64 wd,.int .i64 off,.int .i64 fr,.int .i64 to,.int .i64 mv]] w fun e i=>e=.returned (.bool (cF ⟨2,mon,day,nth,wd,off,fr,to,mv⟩))/\Below w.heap.size w i:=by
 rw [QY];obtain⟨R,c⟩:∃ R,decide ((1900<=fr/\fr<=2199/\fr<=to/\to<=2199/\0<=mv/\mv<=2)/\day=0/\off=0/\1<=mon/\mon<=12/\0<=wd/\wd<=6/\1<=nth/\nth<=5)=R:=⟨_,rfl⟩;rw [c];have f:=hideS c;clear c;have a:=hideS (iR w);have g:=hideS (fun b mon day nth wd off fr to mv j=>nA b mon day nth wd off fr to mv j)
 go_enter Tryz.func256,Tryz.ntmps256
 go_wp2_with (first | (go_at_call 209;refine (aJ _ _ _ _).mono ?_;rintro e h ⟨rfl,rfl⟩) | (go_at_call 254;refine (g.out _ _ _ _ _ _ _ _ _ _).mono ?_;rintro e h ⟨rfl,d⟩))
 all_goals
  go_ret
  first
  | refine⟨zL (Eq.trans ?_ f.out),a.out _ _⟩
  | refine⟨zL (Eq.trans ?_ f.out),(a.out _ _).trans (d.mono (by simp<;>omega))⟩
  first | exact (decide_eq_false (by omega)).symm | exact decide_eq_decide.2 (by omega) | (rw [Bool.eq_iff_iff];simp only [Bool.and_eq_true,decide_eq_true_eq];omega)
theorem Lo (mon day nth wd off fr to mv:Int) (w:World) :
  Calls Tryz.prog 253 #[.agg #[.int .i64 1,.int .i64 mon,.int .i64 day,.int .i64 nth,.int .i64 wd,.int .i64 off,.int .i64 fr,.int .i64 to,.int .i64 mv]] w fun e m=>e=.returned (.bool (cF ⟨1,mon,day,nth,wd,off,fr,to,mv⟩))/\Below w.heap.size w m:=by
 rw [QX];have b:=hideS (iR w);have l:=hideS (fun f mon day nth wd off fr to mv d=>nA f mon day nth wd off fr to mv d)
 by_cases c:1<=mon/\mon<=12
 ·have g:=hideS (fun d=>fY 2000 mon d ⟨by decide,by decide,c.1,c.2⟩)
  rw [Lk c.1 c.2] at g
  generalize uj mon=L at *
  obtain⟨R,h⟩:∃ R,decide ((1900<=fr/\fr<=2199/\fr<=to/\to<=2199/\0<=mv/\mv<=2)/\nth=0/\wd=0/\off=0/\1<=mon/\mon<=12/\1<=day/\day<=L)=R:=⟨_,rfl⟩;rw [h];have k:=hideS h;clear h
  go_enter Tryz.func253,Tryz.ntmps253
  go_wp2_with (first | (go_at_call 205;refine (g.out _).mono ?_;rintro e j ⟨rfl,rfl⟩) | (go_at_call 209;refine (aJ _ _ _ _).mono ?_;rintro e j ⟨rfl,rfl⟩) | (go_at_call 254;refine (l.out _ _ _ _ _ _ _ _ _ _).mono ?_;rintro e j ⟨rfl,i⟩))
  all_goals
   go_ret
   first
   | refine⟨zL (Eq.trans ?_ k.out),b.out _ _⟩
   | refine⟨zL (Eq.trans ?_ k.out),(b.out _ _).trans (i.mono (by simp<;>omega))⟩
   first | exact (decide_eq_false (by omega)).symm | exact decide_eq_decide.2 (by omega) | (rw [Bool.eq_iff_iff];simp only [Bool.and_eq_true,decide_eq_true_eq];omega)
 ·have g:=hideS (fun d=>jC 2000 mon d (fun a=>c ⟨a.2.2.1,a.2.2.2⟩))
  rw [decide_eq_false (fun a=>c ⟨a.2.2.2.2.1,a.2.2.2.2.2.1⟩)]
  clear c
  go_enter Tryz.func253,Tryz.ntmps253
  go_wp2_with (go_at_call 205;refine (g.out _).mono ?_;rintro e j ⟨rfl,rfl⟩)
  all_goals
   go_ret
   exact⟨rfl,b.out _ _⟩
theorem Lp (w:World) :
  Calls Tryz.prog 264 #[.agg #[]] w fun e a=>e=.returned (.bool false)/\Below w.heap.size w a:=by
 go_enter Tryz.func264,Tryz.ntmps264
 go_wp2_with fail
 go_ret
 exact⟨rfl,(Below.refl w.heap.size w).alloc (Nat.le_refl _) _⟩
def tyK (k:Int):Nat:=if k=1 then 240 else if k=2 then 241 else if k=3 then 242 else 243
theorem bE (kind mon day nth wd off fr to mv:Int) (w:World) (b:kind=1\/kind=2\/kind=3\/kind=4) :
  Calls Tryz.prog 208 #[.agg #[.int .i64 kind,.int .i64 mon,.int .i64 day,.int .i64 nth,.int .i64 wd,.int .i64 off,.int .i64 fr,.int .i64 to,.int .i64 mv]] w fun e a=>e=.returned (.iface (tyK kind) (.agg #[.int .i64 kind,.int .i64 mon,.int .i64 day,.int .i64 nth,.int .i64 wd,.int .i64 off,.int .i64 fr,.int .i64 to,.int .i64 mv]))/\Below w.heap.size w a:=by
 rcases b with rfl | rfl | rfl | rfl
 all_goals
  go_enter Tryz.func208,Tryz.ntmps208
  go_wp2_with fail
  go_ret
  exact⟨rfl,(Below.refl w.heap.size w).alloc (Nat.le_refl _) _⟩
theorem rC (kind mon day nth wd off fr to mv:Int) (w:World) (b:¬ (kind=1\/kind=2\/kind=3\/kind=4)) :
  Calls Tryz.prog 208 #[.agg #[.int .i64 kind,.int .i64 mon,.int .i64 day,.int .i64 nth,.int .i64 wd,.int .i64 off,.int .i64 fr,.int .i64 to,.int .i64 mv]] w fun e c=>e=.returned (.iface 245 (.agg #[]))/\Below w.heap.size w c:=by
 have f:(kind==1)=false:=beq_eq_false_iff_ne.2 (fun a=>b (by omega))
 have h:(kind==2)=false:=beq_eq_false_iff_ne.2 (fun a=>b (by omega))
 have d:(kind==3)=false:=beq_eq_false_iff_ne.2 (fun a=>b (by omega))
 have g:(kind==4)=false:=beq_eq_false_iff_ne.2 (fun a=>b (by omega))
 clear b
 go_enter Tryz.func208,Tryz.ntmps208
 go_wp2_with fail
 go_ret
 exact⟨rfl,(Below.refl w.heap.size w).alloc (Nat.le_refl _) _⟩
end Go.Proofs.YtfdddijdjpijbaaGreat
