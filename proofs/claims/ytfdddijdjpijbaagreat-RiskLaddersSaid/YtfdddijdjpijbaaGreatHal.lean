/-  -/
import Derived.Test.YtfdddijdjpijbaaGreatDLen
import Derived.Deep.RegionWith
import Derived.Test.YtfdddijdjpijbaaGreatHad
import Derived.Laws.BitsAllLaws
import Derived.Laws.Bits64b
set_option maxHeartbeats 3200000
namespace Go.Proofs.YtfdddijdjpijbaaGreat
open Go.RowKit
def ymB (y m:Int):Prop:=1900<=y/\y<=2199/\1<=m/\m<=12
theorem fJ (y:Int) (w:World) :
  Calls Tryz.prog 218 #[.int .i64 y] w fun e a=>e=.returned (.bool (decide (1900<=y/\y<=2199)))/\a=w:=by
 by_cases c:1900<=y<;>by_cases b:y<=2199
 all_goals
  first | rw [decide_eq_true (⟨c,b⟩:1900<=y/\y<=2199)] | rw [decide_eq_false (fun h:1900<=y/\y<=2199=>by omega)]
  go_enter Tryz.func218,Tryz.ntmps218
  go_wp2
  go_ret
  exact⟨rfl,rfl⟩
theorem fK (y m:Int) (w:World) (h:ymB y m) :
  Calls Tryz.prog 205 #[.int .i64 y,.int .i64 m] w fun e a=>e=.returned (.tuple #[.int .i64 (cI y m),.int .i64 0])/\a=w:=by
 obtain⟨d,f,j,c⟩:=h;have b:=fJ y;rw [decide_eq_true (⟨d,f⟩:1900<=y/\y<=2199)] at b
 have i:=hideS (kR y m w j c);have g:=hideS b;clear b;generalize cI y m=L at *
 go_enter Tryz.func205,Tryz.ntmps205
 go_wp2_with (first | (go_at_call 218;refine (g.out _).mono ?_;rintro e a ⟨rfl,rfl⟩) | (go_at_call 206;refine i.out.mono ?_;rintro e a ⟨rfl,rfl⟩))
 go_ret2
 exact⟨rfl,rfl⟩
theorem jt (y m:Int) (w:World) (h:¬ ymB y m) :
  Calls Tryz.prog 205 #[.int .i64 y,.int .i64 m] w fun e c=>e=.returned (.tuple #[.int .i64 0,.int .i64 50])/\c=w:=by
 unfold ymB at h
 by_cases a:1900<=y/\y<=2199
 ·have b:=fJ y;rw [decide_eq_true a] at b
  have d:=hideS b;clear b;rcases (show m<1\/(1<=m/\12<m) by omega) with f | ⟨f,g⟩
  all_goals
   clear h a
   go_enter Tryz.func205,Tryz.ntmps205
   go_wp2_with (go_at_call 218;refine (d.out _).mono ?_;rintro e c ⟨rfl,rfl⟩)
   go_ret2
   exact⟨rfl,rfl⟩
 ·have b:=fJ y;rw [decide_eq_false a] at b
  have d:=hideS b;clear b h a
  go_enter Tryz.func205,Tryz.ntmps205
  go_wp2_with (go_at_call 218;refine (d.out _).mono ?_;rintro e c ⟨rfl,rfl⟩)
  go_ret2
  exact⟨rfl,rfl⟩
theorem tM (y:Int) (w:World) (h:0<=y) (b:y<=3000) :
  Calls Tryz.prog 207 #[.int .i64 y] w fun e a=>e=.returned (.int .i64 (ov y))/\a=w:=by
 unfold ov
 go_enter Tryz.func207,Tryz.ntmps207
 go_wp2
 go_ret
 exact⟨rfl,rfl⟩
theorem ju (y:Int) (w:World) (h:1900<=y) (j:y<=2200) :
  Calls Tryz.prog 192 #[.int .i64 y] w fun e a=>e=.returned (.int .i64 (nyI y))/\a=w:=by
 have f:=hideS (tM (y - 1) w (by omega) (by omega))
 have b:=hideS (tM 1899 w (by omega) (by omega))
 have c:ov 1899=460:=by decide
 rw [c] at b
 unfold nyI;have d:0<=ov (y - 1)/\ov (y - 1)<=3000:=by unfold ov;omega
 obtain⟨g,i⟩:=d;generalize ov (y - 1)=L at *
 clear c
 go_enter Tryz.func192,Tryz.ntmps192
 go_wp2_with (first | (go_at_call_of 207 (Value.int IntKind.i64 1899);refine b.out.mono ?_;rintro e a ⟨rfl,rfl⟩) | (go_at_call 207;refine f.out.mono ?_;rintro e a ⟨rfl,rfl⟩))
 go_ret
 exact⟨rfl,rfl⟩
theorem mZ (y m d:Int) (w:World) (h:okD y m d) :
  Calls Tryz.prog 187 #[.int .i64 y,.int .i64 m,.int .i64 d] w fun e j=>e=.returned (.tuple #[.int .i64 (aX y m d),.int .i64 0])/\j=w:=by
 obtain⟨g,z,P,G,Q,M⟩:=h;have r:=hideS (fK y m w ⟨g,z,P,G⟩);have c:=hideS (ju y w g (by omega))
 have O:=js y m;have f:=hideS (fun (k:Int) (p:World) (a:1<=k) (b:k<=12)=>kR y k p a b)
 have o:Hid (aX y m d=nyI y+d - 1+cG y m):=by show _=_;unfold aX;omega
 have A:0<=nyI y:=by have:=nP g;omega
 have I:nyI y<=110000:=by have:=nQ g;omega
 obtain⟨R,t⟩:∃ R,aX y m d=R:=⟨_,rfl⟩;rw [t] at o ⊢
 clear t;obtain⟨L,v⟩:∃ L,cI y m=L:=⟨_,rfl⟩;rw [v] at r M O
 clear v;obtain⟨N,u⟩:∃ N,nyI y=N:=⟨_,rfl⟩;rw [u] at c A I o
 clear u
 go_enter Tryz.func187,Tryz.ntmps187
 go_wp2_with (first | (go_at_call 205;refine r.out.mono ?_;rintro e j ⟨rfl,rfl⟩) | (go_at_call 192;refine c.out.mono ?_;rintro e j ⟨rfl,rfl⟩))
 clear r c
 go_loop [35,10] (fun i n=>∃ (k:Nat) (C:Int),(k:Int)+1<=m/\0<=C/\C<=200000/\i=.int .i64 k/\n=.int .i64 C/\Hid (C=N+d - 1+cG y (k+1))) (fun i _=>(m - intOf i).toNat)
 case atStart=>exact⟨0,N+d - 1,by omega,by omega,by omega,rfl,rfl,by show _=_;rw [show (((0:Nat):Int)+1)=1 by rfl,eU];omega⟩
 case round=>
  obtain⟨k,C,S,B,F,rfl,rfl,q⟩:=hrel
  by_cases D:(k:Int)+1<m
  ·have H:=hideS (fun p=>f.out (k+1) p (by omega) (by omega))
   have c:Hid (C+cI y (k+1)=N+d - 1+cG y (((k+1:Nat):Int)+1)):=by
    show _=_
    rw [q.out,show (((k+1:Nat):Int)+1)=(k:Int)+1+1 by omega,gQ (m:=(k:Int)+1) (by omega) (by omega)];omega
   have E:Hid (cG y (((k+1:Nat):Int)+1)<=366):=Kp (by omega) (by omega)
   have T:=jr y (k+1);have U:=js y (k+1);generalize cI y (k+1)=l at *
   have s:(k:Int)<m - 1:=by omega
   go_wp2_with (go_at_call 206;refine (H.out _).mono ?_;rintro e j ⟨rfl,rfl⟩)
   go_round
   case rel=>exact⟨k+1,C+l,by omega,by omega,by have:=c.out;have:=E.out;omega,by go_num,rfl,c⟩
   case measure=>simp [intOf];omega
  ·have x:m=(k:Int)+1:=by omega
   have K:Hid (C=R):=by show _=_;rw [q.out,o.out,x]
   have J:¬ (k:Int)<m - 1:=by omega
   clear q o x
   go_wp2_with fail
   go_ret2
   obtain rfl:=K.out;exact⟨rfl,rfl⟩
theorem Ni (y m d:Int) (w:World) (h:¬ okD y m d) :
  Calls Tryz.prog 187 #[.int .i64 y,.int .i64 m,.int .i64 d] w fun e b=>e=.returned (.tuple #[.int .i64 0,.int .i64 50])/\b=w:=by
 by_cases a:ymB y m
 ·have c:=hideS (fK y m w a);obtain⟨k,j,n,i⟩:=a;unfold okD at h
  have l:=jr y m;generalize cI y m=L at *
  rcases (show d<1\/(1<=d/\L<d) by omega) with g | ⟨g,f⟩
  all_goals
   clear h
   go_enter Tryz.func187,Tryz.ntmps187
   go_wp2_with (go_at_call 205;refine c.out.mono ?_;rintro e b ⟨rfl,rfl⟩)
   go_ret2
   exact⟨rfl,rfl⟩
 ·have c:=hideS (jt y m w a);clear a h
  go_enter Tryz.func187,Tryz.ntmps187
  go_wp2_with (go_at_call 205;refine c.out.mono ?_;rintro e b ⟨rfl,rfl⟩)
  go_ret2
  exact⟨rfl,rfl⟩
theorem nf {y m:Int} (h:ymB y m) (d:Int) (f:1<=d) (g:d<=28):okD y m d:=by
 obtain⟨a,b,c,e⟩:=h;have:=jr y m;exact⟨a,b,c,e,f,by omega⟩
def jv (y:Int):Int:=aX y (eaT y / 31) (eaT y % 31+1)
structure EaW (y a b c d e f g h i k l m t:Int):Prop where
 fa:y % 19=a
 fb:y / 100=b
 fc:y % 100=c
 fd:b / 4=d
 fe:b % 4=e
 ff:(b+8) / 25=f
 fg:(b - f+1) / 3=g
 fh:(19*a+b - d - g+15) % 30=h
 fi:c / 4=i
 fk:c % 4=k
 fl:(32+2*e+2*i - h - k) % 7=l
 fm:(a+11*h+22*l) / 451=m
 ft:h+l - 7*m+114=t
theorem PC (y:Int):∃ a b c d e f g h i k l m,EaW y a b c d e f g h i k l m (eaT y):=
 ⟨_,_,_,_,_,_,_,_,_,_,_,_,⟨rfl,rfl,rfl,rfl,rfl,rfl,rfl,rfl,rfl,rfl,rfl,rfl,rfl⟩⟩
theorem ze (y:Int) (w:World) (j:1900<=y) (s:y<=2199) :
  Calls Tryz.prog 260 #[.int .i64 y] w fun e D=>e=.returned (.tuple #[.int .i64 (eaT y / 31),.int .i64 (eaT y % 31+1)])/\D=w:=by
 obtain⟨a,b,c,d,e,f,g,h,i,k,l,m,H⟩:=PC y;have W:=(tL j s).pos;have E:=(tL j s).small;generalize eaT y=t at *
 obtain⟨O,Q,L,ed,T,P,R,U,ei,S,Z,K,I⟩:=H;have r:0<=a/\a<=18:=by omega
 have B:19<=b/\b<=21:=by omega
 have c0:0<=c/\c<=99:=by omega
 have v:0<=d/\d<=5:=by omega
 have x:0<=e/\e<=3:=by omega
 have q:0<=f/\f<=2:=by omega
 have n:0<=g/\g<=8:=by omega
 have o:0<=h/\h<=29:=by omega
 have z:0<=i/\i<=24:=by omega
 have u:0<=k/\k<=3:=by omega
 have A:0<=l/\l<=6:=by omega
 have p:0<=m/\m<=2:=by omega
 obtain⟨r,a1⟩:=r;obtain⟨B,M⟩:=B;obtain⟨c0,c1⟩:=c0;obtain⟨v,F⟩:=v;obtain⟨x,V⟩:=x;obtain⟨q,J⟩:=q;obtain⟨n,X⟩:=n;obtain⟨o,C⟩:=o;obtain⟨z,N⟩:=z;obtain⟨u,k1⟩:=u;obtain⟨A,Y⟩:=A;obtain⟨p,G⟩:=p
 go_enter Tryz.func260,Tryz.ntmps260
 go_wp2_with fail
 go_ret2
 exact⟨rfl,rfl⟩
theorem FN (y:Int) (w:World) (b:1900<=y) (c:y<=2199) :
  Calls Tryz.prog 259 #[.int .i64 y] w fun e a=>e=.returned (.tuple #[.int .i64 (jv y),.int .i64 0])/\a=w:=by
 have g:Hid (∀ w,Calls Tryz.prog 218 #[.int .i64 y] w fun e a=>e=.returned (.bool true)/\a=w):=fun w=>by
  have d:=fJ y w;rw [decide_eq_true (⟨b,c⟩:1900<=y/\y<=2199)] at d;exact d
 have f:=hideS (ze y w b c);have h:=hideS (mZ y (eaT y / 31) (eaT y % 31+1) w (tL b c).ok);unfold jv;generalize aX y (eaT y / 31) (eaT y % 31+1)=R at *
 generalize eaT y / 31=M at *
 generalize eaT y % 31+1=D at *
 go_enter Tryz.func259,Tryz.ntmps259
 go_wp2_with (first | (go_at_call 218;refine (g.out _).mono ?_;rintro e a ⟨rfl,rfl⟩) | (go_at_call 260;refine f.out.mono ?_;rintro e a ⟨rfl,rfl⟩) | (go_at_call 187;refine h.out.mono ?_;rintro e a ⟨rfl,rfl⟩))
 go_ret2
 exact⟨rfl,rfl⟩
theorem BL (y:Int) (w:World) (h:¬ (1900<=y/\y<=2199)) :
  Calls Tryz.prog 259 #[.int .i64 y] w fun e a=>e=.returned (.tuple #[.int .i64 0,.int .i64 50])/\a=w:=by
 have c:Hid (∀ w,Calls Tryz.prog 218 #[.int .i64 y] w fun e a=>e=.returned (.bool false)/\a=w):=fun w=>by
  have b:=fJ y w;rw [decide_eq_false h] at b;exact b
 clear h
 go_enter Tryz.func259,Tryz.ntmps259
 go_wp2_with (go_at_call 218;refine (c.out _).mono ?_;rintro e a ⟨rfl,rfl⟩)
 go_ret2
 exact⟨rfl,rfl⟩
theorem BM {W n:Int} {u d a d':Nat} (h:Ups W n u d) (b:Ups W n a d'):u=a/\d=d':=by
 constructor
 ·rcases Nat.lt_trichotomy u a with e | e | e
  ·have:=b.uo u e;rw [h.uf] at this;exact Bool.noConfusion this
  ·exact e
  ·have:=h.uo a e;rw [b.uf] at this;exact Bool.noConfusion this
 ·rcases Nat.lt_trichotomy d d' with e | e | e
  ·have:=b.dn d e;rw [h.df] at this;exact Bool.noConfusion this
  ·exact e
  ·have:=h.dn d' e;rw [b.df] at this;exact Bool.noConfusion this
open Classical in
noncomputable def mvI (W n mv:Int):Int:=if h:∃ p:Nat×Nat,Ups W n p.1 p.2 then cQ W n mv h.choose.1 h.choose.2 else n
theorem zf {W n mv:Int} {u d:Nat} (h:Ups W n u d):mvI W n mv=cQ W n mv u d:=by
 have a:∃ p:Nat×Nat,Ups W n p.1 p.2:=⟨(u,d),h⟩;unfold mvI;rw [dif_pos a];have e:=BM a.choose_spec h;rw [e.1,e.2]
def tN (m:Int):Int:=if m=2 then 29 else if m=4\/m=6\/m=9\/m=11 then 30 else 31
def cD (r:Rul):Bool:=
 if r.kind=4 then decide (r.mon=0/\r.nth=0/\r.wd=0/\r.off=0/\r.fr=0/\r.to=0/\r.mv=0/\0<=r.day/\r.day<=109572)
 else decide (1900<=r.fr/\r.fr<=2199/\r.fr<=r.to/\r.to<=2199/\0<=r.mv/\r.mv<=2)&&
  (if r.kind=1 then decide (r.nth=0/\r.wd=0/\r.off=0/\1<=r.mon/\r.mon<=12/\1<=r.day/\r.day<=tN r.mon)
  else if r.kind=2 then decide (r.day=0/\r.off=0/\1<=r.mon/\r.mon<=12/\0<=r.wd/\r.wd<=6/\1<=r.nth/\r.nth<=5)
  else if r.kind=3 then decide (r.mon=0/\r.day=0/\r.nth=0/\r.wd=0/\-100<=r.off/\r.off<=100) else false)
theorem fit_cases {r:Rul} (h:cD r=true) :
  (r.kind=4/\0<=r.day/\r.day<=109572/\r.mv=0)\/
  ((1900<=r.fr/\r.fr<=r.to/\r.to<=2199/\0<=r.mv/\r.mv<=2)/\
   ((r.kind=1/\1<=r.mon/\r.mon<=12/\1<=r.day/\r.day<=tN r.mon)\/(r.kind=2/\1<=r.mon/\r.mon<=12/\0<=r.wd/\r.wd<=6/\1<=r.nth/\r.nth<=5)\/(r.kind=3/\-100<=r.off/\r.off<=100))):=by
 unfold cD at h
 by_cases j:r.kind=4
 ·rw [if_pos j,decide_eq_true_eq] at h
  exact Or.inl ⟨j,h.2.2.2.2.2.2.2.1,h.2.2.2.2.2.2.2.2,h.2.2.2.2.2.2.1⟩
 ·rw [if_neg j,Bool.and_eq_true,decide_eq_true_eq] at h
  obtain⟨⟨a,b,c,d,e,f⟩,h⟩:=h;refine Or.inr ⟨⟨a,c,d,e,f⟩,?_⟩
  by_cases i:r.kind=1
  ·rw [if_pos i,decide_eq_true_eq] at h
   exact Or.inl ⟨i,h.2.2.2⟩
  ·rw [if_neg i] at h
   by_cases k:r.kind=2
   ·rw [if_pos k,decide_eq_true_eq] at h
    exact Or.inr (Or.inl ⟨k,h.2.2⟩)
   ·rw [if_neg k] at h
    by_cases g:r.kind=3
    ·rw [if_pos g,decide_eq_true_eq] at h
     exact Or.inr (Or.inr ⟨g,h.2.2.2.2⟩)
    ·rw [if_neg g] at h;exact Bool.noConfusion h
open Classical in
noncomputable def nR (r:Rul) (y:Int):Option Int:=
 if y<r.fr\/r.to<y then none
 else if r.kind=1 then (if okD y r.mon r.day then some (aX y r.mon r.day) else none)
 else if r.kind=2 then some (FM y r.mon r.wd r.nth)
 else if r.kind=3 then some (jv y+r.off) else some 0
noncomputable def Kt (W:Int) (r:Rul) (y:Int):Option Int:=(nR r y).map (fun n=>mvI W n r.mv)
noncomputable def Nj (W:Int) (r:Rul) (n Y:Int):Bool:=
 if r.kind=4 then r.day==n else Kt W r (Y - 1)==some n||Kt W r Y==some n||Kt W r (Y+1)==some n
noncomputable def vQ (W:Int) (rs:List Rul) (n Y:Int):Bool:=rs.any fun r=>Nj W r n Y
theorem Nk {y m wd k:Int} (h:ymB y m) (_d0:0<=wd) (_d1:wd<=6) (c:1<=k) (a:k<=5):0<=FM y m wd k/\FM y m wd k<=110000:=by
 obtain⟨b,e⟩:=(mY (nf h 1 (by omega) (by omega))).range
 have d:=jr y m
 show 0<=(if k=5/\aX y m 1+cI y m<=aX y m 1+(wd - aX y m 1) % 7+7*(k - 1) then aX y m 1+(wd - aX y m 1) % 7+7*(k - 1) - 7 else aX y m 1+(wd - aX y m 1) % 7+7*(k - 1))/\(if k=5/\aX y m 1+cI y m<=aX y m 1+(wd - aX y m 1) % 7+7*(k - 1) then aX y m 1+(wd - aX y m 1) % 7+7*(k - 1) - 7 else aX y m 1+(wd - aX y m 1) % 7+7*(k - 1))<=110000
 split<;>omega
def jw:Rul:=⟨0,0,0,0,0,0,0,0,0⟩
structure RCells (w:World) (b o:Nat) (r:Rul):Prop where
 c0:w.cell? ⟨b,o,none⟩=some (.int .i64 r.kind)
 c1:w.cell? ⟨b,o+1,none⟩=some (.int .i64 r.mon)
 c2:w.cell? ⟨b,o+2,none⟩=some (.int .i64 r.day)
 c3:w.cell? ⟨b,o+3,none⟩=some (.int .i64 r.nth)
 c4:w.cell? ⟨b,o+4,none⟩=some (.int .i64 r.wd)
 c5:w.cell? ⟨b,o+5,none⟩=some (.int .i64 r.off)
 c6:w.cell? ⟨b,o+6,none⟩=some (.int .i64 r.fr)
 c7:w.cell? ⟨b,o+7,none⟩=some (.int .i64 r.to)
 c8:w.cell? ⟨b,o+8,none⟩=some (.int .i64 r.mv)
theorem RCells.below {w d:World} {B b o:Nat} {r:Rul} (h:RCells w b o r) (c:Below B w d) (a:b<B):RCells d b o r:=
 ⟨(c.cell (p:=⟨b,o,none⟩) a).trans h.c0,(c.cell (p:=⟨b,o+1,none⟩) a).trans h.c1,(c.cell (p:=⟨b,o+2,none⟩) a).trans h.c2,(c.cell (p:=⟨b,o+3,none⟩) a).trans h.c3,(c.cell (p:=⟨b,o+4,none⟩) a).trans h.c4,(c.cell (p:=⟨b,o+5,none⟩) a).trans h.c5,(c.cell (p:=⟨b,o+6,none⟩) a).trans h.c6,(c.cell (p:=⟨b,o+7,none⟩) a).trans h.c7,(c.cell (p:=⟨b,o+8,none⟩) a).trans h.c8⟩
structure RSrc (w:World) (p:Option Addr) (b off:Nat) (rs:List Rul):Prop where
 at_:0<rs.length->p=some ⟨b,off,none⟩
 lt:0<rs.length->b<w.heap.size
 cell:∀ i,i<rs.length->RCells w b (off+i*9) (rs.getD i jw)
theorem RSrc.below {w a:World} {p:Option Addr} {b off:Nat} {rs:List Rul} (h:RSrc w p b off rs) (c:Below w.heap.size w a):RSrc a p b off rs:=
 ⟨h.at_,fun e=>Nat.lt_of_lt_of_le (h.lt e) c.size,fun j d=>(h.cell j d).below c (h.lt (by omega))⟩
open Classical in
noncomputable def yrI (n:Int):Int:=if h:∃ y m d,IsD n y m d then h.choose else 0
theorem tO {n y m d:Int} (h:IsD n y m d):yrI n=y:=by
 have a:∃ y m d,IsD n y m d:=⟨y,m,d,h⟩;unfold yrI;rw [dif_pos a];obtain⟨e,c,b⟩:=a.choose_spec;exact (b.unique h).1
noncomputable def opB (W:Int) (rs:List Rul) (n:Int):Bool:=!eE W n&&!vQ W rs n (yrI n)
def ap (n:Int):Prop:=0<=n/\n<=109572
instance (n:Int):Decidable (ap n):=by unfold ap;infer_instance
structure OkC (W:Int) (rs:List Rul):Prop where
 len:rs.length<=64
 w0:0<=W
 w1:W<=126
 fit:∀ r ∈ rs,cD r=true
inductive ChkR (W:Int) (rs:List Rul):Int->Int->Prop where
 | long:64<rs.length->ChkR W rs 2 0
 | week:rs.length<=64->¬ (0<=W/\W<=126)->ChkR W rs 60 (-1)
 | rule (k:Nat):rs.length<=64->(0<=W/\W<=126)->k<rs.length->cD (rs.getD k jw)=false->(∀ j<k,cD (rs.getD j jw)=true)->ChkR W rs 60 k
 | ok:OkC W rs->ChkR W rs 0 0
theorem qZ {rs:List Rul} {k:Nat} (h:k<rs.length):rs.getD k jw ∈ rs:=by
 rw [List.getD_eq_getElem?_getD,List.getElem?_eq_getElem h];exact List.getElem_mem h
theorem PD {W:Int} {rs:List Rul} {B:Int} (h:ChkR W rs 0 B):OkC W rs/\B=0:=by
 cases h with
 | ok h=>exact⟨h,rfl⟩
open Classical in
noncomputable def moI (n:Int):Int:=if h:∃ k,∃ y m d,IsD n y m d/\k=12*y+m then h.choose else 0
theorem Qx {n y m d:Int} (h:IsD n y m d):moI n=12*y+m:=by
 have a:∃ k,∃ y m d,IsD n y m d/\k=12*y+m:=⟨_,y,m,d,h,rfl⟩;unfold moI;rw [dif_pos a];obtain⟨g,j,i,f,e⟩:=a.choose_spec;obtain⟨b,c,_⟩:=f.unique h;rw [e,b,c]
def cntN (op:Int->Bool) (a:Int):Nat->Nat
 | 0=>0
 | k+1=>cntN op a k+(if op (a+k) then 1 else 0)
theorem Ku (op:Int->Bool) (a:Int) (k:Nat):cntN op a k<=k:=by
 induction k with
 | zero=>exact Nat.le_refl _
 | succ k b=>show cntN op a k+(if op (a+k) then 1 else 0)<=k+1;split<;>omega
def rd (kind c e b f d a:Int):Int:=360*(f - c)+30*(d - e)+(if kind=5\/min b 30=30 then min a 30 else a) - min b 30
def re (y n:Int):Int:=133590*(y - 1900)+(n - nyI y)*(366 - lpI y)
theorem Kv {y n:Int} (h:1900<=y) (c:y<=2200) (b:nyI y<=n) (a:n<=nyI (y+1)):0<=re y n/\re y n<=50000000:=by
 unfold re;rw [lY h] at a
 rcases lp_cases y with e | e<;>rw [e] at a ⊢<;>constructor<;>omega
def CBox (w:World) (W:Int) (v:Value) (wr:World):Prop:=Below (w.heap.size+1) (w.alloc (.cells #[.int .i64 W,v] 96)) wr
theorem CBox.step {w wr a:World} {W:Int} {v:Value} (h:CBox w W v wr) (b:Below wr.heap.size wr a):CBox w W v a:=
 h.trans (b.mono (by have:=h.size;simp at this;omega))
theorem CBox.below {w wr:World} {W:Int} {v:Value} (h:CBox w W v wr):Below w.heap.size w wr:=
 ((Below.refl w.heap.size w).alloc (Nat.le_refl _) _).trans (h.mono (by omega))
theorem CBox.first {w a:World} {W:Int} {v:Value} (b:Below (w.alloc (.cells #[.int .i64 W,v] 96)).heap.size (w.alloc (.cells #[.int .i64 W,v] 96)) a):CBox w W v a:=
 b.mono (by simp)
structure HK (w:World) (W:Int) (v:Value) (b5:Nat) (Y m d:Int) (wr:World):Prop where
 box:CBox w W v wr
 d0:wr.cell? ⟨b5,0,none⟩=some (.int .i64 Y)
 d1:wr.cell? ⟨b5,1,none⟩=some (.int .i64 m)
 d2:wr.cell? ⟨b5,2,none⟩=some (.int .i64 d)
 lt:b5<wr.heap.size
theorem HK.step {w wr c:World} {W:Int} {v:Value} {a:Nat} {Y m d:Int} (h:HK w W v a Y m d wr) (b:Below wr.heap.size wr c):HK w W v a Y m d c:=
 ⟨h.box.step b,(b.cell (p:=⟨a,0,none⟩) h.lt).trans h.d0,(b.cell (p:=⟨a,1,none⟩) h.lt).trans h.d1,(b.cell (p:=⟨a,2,none⟩) h.lt).trans h.d2,Nat.lt_of_lt_of_le h.lt b.size⟩
structure HK2 (w:World) (W:Int) (v:Value) (b5:Nat) (Y m d:Int) (b8:Nat) (r:Rul) (wr:World):Prop where
 hk:HK w W v b5 Y m d wr
 rc:RCells wr b8 0 r
 lt8:b8<wr.heap.size
theorem HK2.step {w wr b:World} {W:Int} {v:Value} {c:Nat} {Y m d:Int} {e:Nat} {r:Rul} (h:HK2 w W v c Y m d e r wr) (a:Below wr.heap.size wr b):HK2 w W v c Y m d e r b:=
 ⟨h.hk.step a,h.rc.below a h.lt8,Nat.lt_of_lt_of_le h.lt8 a.size⟩
theorem HK2.first {w wr:World} {W:Int} {v:Value} {a:Nat} {Y m d:Int} {r:Rul} (h:HK w W v a Y m d wr) :
  HK2 w W v a Y m d wr.heap.size r (wr.alloc (.cells #[.int .i64 r.kind,.int .i64 r.mon,.int .i64 r.day,.int .i64 r.nth,.int .i64 r.wd,.int .i64 r.off,.int .i64 r.fr,.int .i64 r.to,.int .i64 r.mv] 235)):=
 ⟨h.step ((Below.refl _ wr).alloc (Nat.le_refl _) _),⟨by simp,by simp,by simp,by simp,by simp,by simp,by simp,by simp,by simp⟩,by simp⟩
theorem zg {a b:Bool} (h:a=b):Ending.returned (.bool a)=.returned (.bool b):=by rw [h]
theorem QN (mon day nth wd off fr to mv:Int):cD ⟨4,mon,day,nth,wd,off,fr,to,mv⟩=decide (mon=0/\nth=0/\wd=0/\off=0/\fr=0/\to=0/\mv=0/\0<=day/\day<=109572):=by
 unfold cD;dsimp only;rw [if_pos rfl]
def BN (fr to mv:Int):Prop:=1900<=fr/\fr<=2199/\fr<=to/\to<=2199/\0<=mv/\mv<=2
theorem vR {kind mon day nth wd off fr to mv:Int} (a:kind≠4) (h:¬ BN fr to mv):cD ⟨kind,mon,day,nth,wd,off,fr,to,mv⟩=false:=by
 unfold cD;dsimp only;rw [if_neg a,show decide (1900<=fr/\fr<=2199/\fr<=to/\to<=2199/\0<=mv/\mv<=2)=false from decide_eq_false h,Bool.false_and]
theorem QO {mon day nth wd off fr to mv:Int} (h:BN fr to mv):cD ⟨1,mon,day,nth,wd,off,fr,to,mv⟩=decide (nth=0/\wd=0/\off=0/\1<=mon/\mon<=12/\1<=day/\day<=tN mon):=by
 unfold cD;dsimp only;rw [if_neg (by decide),show decide (1900<=fr/\fr<=2199/\fr<=to/\to<=2199/\0<=mv/\mv<=2)=true from decide_eq_true h,Bool.true_and,if_pos rfl]
theorem QP {mon day nth wd off fr to mv:Int} (h:BN fr to mv):cD ⟨2,mon,day,nth,wd,off,fr,to,mv⟩=decide (day=0/\off=0/\1<=mon/\mon<=12/\0<=wd/\wd<=6/\1<=nth/\nth<=5):=by
 unfold cD;dsimp only;rw [if_neg (by decide),show decide (1900<=fr/\fr<=2199/\fr<=to/\to<=2199/\0<=mv/\mv<=2)=true from decide_eq_true h,Bool.true_and,if_neg (by decide),if_pos rfl]
theorem QQ {mon day nth wd off fr to mv:Int} (h:BN fr to mv):cD ⟨3,mon,day,nth,wd,off,fr,to,mv⟩=decide (mon=0/\day=0/\nth=0/\wd=0/\-100<=off/\off<=100):=by
 unfold cD;dsimp only;rw [if_neg (by decide),show decide (1900<=fr/\fr<=2199/\fr<=to/\to<=2199/\0<=mv/\mv<=2)=true from decide_eq_true h,Bool.true_and,if_neg (by decide),if_neg (by decide),if_pos rfl]
theorem PE {kind mon day nth wd off fr to mv:Int} (c:kind≠1) (b:kind≠2) (d:kind≠3) (a:kind≠4):cD ⟨kind,mon,day,nth,wd,off,fr,to,mv⟩=false:=by
 unfold cD;dsimp only;rw [if_neg a,if_neg c,if_neg b,if_neg d,Bool.and_false]
theorem below_drewN' {B:Nat} {w b:World} {n:Nat} (a:Below B w b):Below B w (b.drewN n):=⟨a.os,a.tape,a.output,a.size,a.block⟩
theorem zh {w:World} {v:Value} (cs:Array Value) (t:TypeId) (k:Nat) (h:cs[k]? =some v) {o:Obj}:((w.alloc o).alloc (.cells cs t)).cell? ⟨w.heap.size+1,k,none⟩=some v:=by
 rw [show w.heap.size+1=(w.alloc o).heap.size by simp]
 simp [h]
noncomputable def moD (n:Int):Int:=moI n - 12*yrI n
noncomputable def daD (n:Int):Int:=n - nyI (yrI n) - cG (yrI n) (moD n)+1
theorem oM {n y m d:Int} (h:IsD n y m d):yrI n=y/\moD n=m/\daD n=d:=by
 have a:=tO h;have b:moD n=m:=by unfold moD;rw [Qx h,a];omega
 refine⟨a,b,?_⟩
 unfold daD;rw [a,b];have:=h.2;unfold aX at this
 omega
noncomputable def iT (op:Int->Bool) (kind a b:Int):Int:=
 if kind=1\/kind=2 then b - a else if kind=3 then re (yrI b) b - re (yrI a) a else if kind=6 then (cntN op a (b - a).toNat:Nat) else rd kind (yrI a) (moD a) (daD a) (yrI b) (moD b) (daD b)
def eH (kind:Int):Int:=if kind=2 then 365 else if kind=3 then 133590 else if kind=6 then 252 else 360
structure PBoxN (w:World) (W:Int) (v:Value) (wr:World):Prop where
 a0:wr.cell? ⟨w.heap.size,0,none⟩=some (.int .i64 W)
 a1:wr.cell? ⟨w.heap.size,1,none⟩=some v
 d0:wr.cell? ⟨w.heap.size+1,0,none⟩=some (.int .i64 0)
 d1:wr.cell? ⟨w.heap.size+1,1,none⟩=some (.int .i64 0)
 f0:wr.frozen? ⟨w.heap.size+1,0,none⟩=false
 f1:wr.frozen? ⟨w.heap.size+1,1,none⟩=false
 bl:Below w.heap.size w wr
 sz:w.heap.size+2<=wr.heap.size
theorem PBoxN.step {w wr a:World} {W:Int} {v:Value} (h:PBoxN w W v wr) (b:Below wr.heap.size wr a):PBoxN w W v a:=by
 have e:=h.sz;have c:∀ k<w.heap.size+2,∀ j,a.cell? ⟨k,j,none⟩=wr.cell? ⟨k,j,none⟩:=fun k d j=>b.cell (p:=⟨k,j,none⟩) (by show k<_;omega)
 have f:∀ k<w.heap.size+2,∀ j,a.frozen? ⟨k,j,none⟩=wr.frozen? ⟨k,j,none⟩:=fun k d j=>b.frozen (p:=⟨k,j,none⟩) (by show k<_;omega)
 exact⟨(c _ (by omega) _).trans h.a0,(c _ (by omega) _).trans h.a1,(c _ (by omega) _).trans h.d0,(c _ (by omega) _).trans h.d1,(f _ (by omega) _).trans h.f0,(f _ (by omega) _).trans h.f1,h.bl.trans (b.mono h.bl.size),Nat.le_trans h.sz b.size⟩
def BO (a b:Int):Prop:=¬ (ap a/\ap b)
theorem mc (op:Int->Bool) {kind a b:Int} (f:ap a) (g:ap b) (s:a<=b): -1000000000<=iT op kind a b/\iT op kind a b<=1000000000:=by
 obtain⟨h,q,B,d⟩:=iJ f.1 f.2;obtain⟨i,l,R,e⟩:=iJ g.1 g.2;obtain⟨u,r,t⟩:=oM d;obtain⟨k,w,j⟩:=oM e;unfold iT;rw [u,r,t,k,w,j];have p:=d.year;have o:=e.year;obtain⟨⟨v,x,P,C,z,F⟩,_⟩:=d;obtain⟨⟨m,O,I,A,Q,J⟩,_⟩:=e;have N:=js h q;have M:=js i l;have c:=Ku op a (b - a).toNat;have L:=Kv (y:=h) (n:=a) v (by omega) p.1 (by omega)
 have E:=Kv (y:=i) (n:=b) m (by omega) o.1 (by omega)
 obtain⟨G,K⟩:=f;obtain⟨D,H⟩:=g
 split
 ·omega
 ·split
  ·omega
  ·split
   ·omega
   ·unfold rd
    split<;>omega
noncomputable def jx (op:Int->Bool) (kind a b:Int):Int:=if b<a then -iT op kind b a else iT op kind a b
theorem zj (op:Int->Bool) {kind a b:Int} (c:ap a) (d:ap b): -1000000000<=jx op kind a b/\jx op kind a b<=1000000000:=by
 unfold jx
 split
 ·have:=mc op (kind:=kind) d c (by omega);omega
 ·exact mc op c d (by omega)
theorem tQ (n:Int) (w:World) :
  Calls Tryz.prog 189 #[.int .i64 n] w fun e a=>e=.returned (.bool (decide (0<=n/\n<=109572)))/\a=w:=by
 by_cases c:0<=n<;>by_cases b:n<=109572
 all_goals
  first | rw [decide_eq_true (⟨c,b⟩:0<=n/\n<=109572)] | rw [decide_eq_false (fun h:0<=n/\n<=109572=>by omega)]
  go_enter Tryz.func189,Tryz.ntmps189
  go_wp2
  go_ret
  exact⟨rfl,rfl⟩
theorem FS (n:Int) (h:0<=n/\n<=109572) (w:World) :
  Calls Tryz.prog 189 #[.int .i64 n] w fun e a=>e=.returned (.bool true)/\a=w:=by
 have e:=tQ n w;rw [decide_eq_true h] at e;exact e
theorem Kx (n:Int) (h:¬ (0<=n/\n<=109572)) (w:World) :
  Calls Tryz.prog 189 #[.int .i64 n] w fun e a=>e=.returned (.bool false)/\a=w:=by
 have e:=tQ n w;rw [decide_eq_false h] at e;exact e
theorem BP (n y:Int) (w:World) (q:1900<=y) (t:y<=2199) (k:nyI y<=n) (c:n<nyI (y+1)) :
  Calls Tryz.prog 190 #[.int .i64 n] w fun e g=>e=.returned (.int .i64 y)/\g=w:=by
 have v:0<=n:=by have:=nP q;omega
 have u:n<=120000:=by have:=nQ (y:=y+1) (by omega);omega
 have r:1900+n / 366<=y:=by have:=nQ (y:=y+1) (by omega);omega
 have p:=hideS (fun (z:Int) (f:World) (a:1900<=z) (b:z<=2200)=>ju z f a b)
 have o:=hideS k;have d:=hideS c;clear k c
 go_enter Tryz.func190,Tryz.ntmps190
 go_wp2_with fail
 go_loop [3] (fun i=>∃ (j:Int),1900<=j/\j<=y/\i=.int .i64 j) (fun i=>(y - intOf i).toNat)
 case atStart=>exact⟨1900+n / 366,by omega,r,rfl⟩
 case round=>
  obtain⟨j,l,s,rfl⟩:=hrel;have H:=hideS (fun f=>p.out (j+1) f (by omega) (by omega))
  by_cases m:j<y
  ·have h:nyI (j+1)<=n:=by
    have:=eK (y:=j+1) (z:=y) (by omega) (by omega)
    have:=o.out;omega
   generalize nyI (j+1)=N at *
   go_wp2_with (go_at_call 192;refine (H.out _).mono ?_;rintro e g ⟨rfl,rfl⟩)
   go_round
   case rel=>exact⟨j+1,by omega,by omega,rfl⟩
   case measure=>simp [intOf];omega
  ·obtain rfl:j=y:=by omega
   have h:¬ nyI (j+1)<=n:=by have:=d.out;omega
   clear d;generalize nyI (j+1)=N at *
   go_wp2_with (go_at_call 192;refine (H.out _).mono ?_;rintro e g ⟨rfl,rfl⟩)
   go_ret
   exact⟨rfl,rfl⟩
theorem ow (y m r:Int) (w:World) (F:1<=m) (G:m<=12) (c:cG y m<=r) (g:r<cG y (m+1)) :
  Calls Tryz.prog 191 #[.int .i64 y,.int .i64 r] w fun e o=>e=.returned (.tuple #[.int .i64 m,.int .i64 (r - cG y m+1)])/\o=w:=by
 have K:0<=r:=by have:=BK (y:=y) F (by omega);omega
 have J:r<=366:=by have:=Kp (y:=y) (m:=m+1) (by omega) (by omega);omega
 have d:=hideS (fun (k:Int) (n:World) (a:1<=k) (b:k<=12)=>kR y k n a b)
 have u:=hideS c;have f:=hideS g;clear c g;obtain⟨D,q⟩:∃ D,r - cG y m+1=D:=⟨_,rfl⟩;rw [q];have v:=hideS q;clear q
 go_enter Tryz.func191,Tryz.ntmps191
 go_wp2_with fail
 go_loop [7,1,4] (fun i b _=>∃ (k:Int) (C:Int),0<=k/\k+1<=m/\0<=C/\C<=366/\i=.int .i64 k/\b=.int .i64 C/\Hid (C=r - cG y (k+1))) (fun i _ _=>(m - intOf i).toNat)
 case atStart=>exact⟨0,r,by omega,by omega,by omega,by omega,rfl,rfl,by show _=_;rw [show ((0:Int)+1)=1 by rfl,eU];omega⟩
 case round=>
  obtain⟨k,C,B,I,x,E,rfl,rfl,h⟩:=hrel;have H:=hideS (fun n=>d.out (k+1) n (by omega) (by omega))
  have L:=jr y (k+1);have t:Hid (cG y (k+1+1)=cG y (k+1)+cI y (k+1)):=gQ (m:=k+1) (by omega) (by omega)
  by_cases A:k+1<m
  ·have p:¬ C<cI y (k+1):=by
    have:=gR (y:=y) (m:=k+1+1) (k:=m) (by omega) (by omega) (by omega)
    have:=u.out;have:=t.out;have:=h.out;omega
   have j:Hid (C - cI y (k+1)=r - cG y (k+1+1)):=by
    show _=_
    rw [t.out,h.out];omega
   generalize cI y (k+1)=l at *
   go_wp2_with (go_at_call 206;refine (H.out _).mono ?_;rintro e o ⟨rfl,rfl⟩)
   go_round
   case rel=>exact⟨k+1,C - l,by omega,by omega,by omega,by omega,rfl,rfl,j⟩
   case measure=>simp [intOf];omega
  ·have p:C<cI y (k+1):=by
    have:=f.out;rw [show m+1=k+1+1 by omega,t.out] at this
    have:=h.out;omega
   have c:m=k+1:=by omega
   have z:Hid (C+1=D):=by
    show _=_
    rw [<- v.out,h.out,c]
   have s:=hideS c;clear c v h u f;generalize cI y (k+1)=l at *
   go_wp2_with (go_at_call 206;refine (H.out _).mono ?_;rintro e o ⟨rfl,rfl⟩)
   go_ret2
   obtain rfl:=z.out;obtain rfl:=s.out;exact⟨rfl,rfl⟩
theorem me {b:Func} {t u v x:Tmp} (h:b.results=#[.tmp t,.tmp u,.tmp v,.tmp x]) (a:Array Value) (P:Program) (w:World) :
  (results b a).run P w=.ok (.tuple #[a.getD t undef,a.getD u undef,a.getD v undef,a.getD x undef]) w:=by
 simp [results,h]
theorem gS (n y m d:Int) (w:World) (h:IsD n y m d) :
  Calls Tryz.prog 170 #[.int .i64 n] w fun e f=>e=.returned (.tuple #[.int .i64 y,.int .i64 m,.int .i64 d,.int .i64 0])/\f=w:=by
 obtain⟨s,r⟩:=h.range;obtain⟨a,b⟩:=h.year;obtain⟨l,j⟩:=h.month;have t:=hideS (FS n ⟨s,r⟩);have k:n - nyI y - cG y m+1=d:=by have:=h.2;unfold aX at this;omega
 obtain⟨i,p,o,v,_,_⟩:=h.1;clear h;have x:=hideS (fun c=>BP n y c i p a b)
 have q:=hideS (fun c=>ju y c i (by omega))
 have g:=fun c=>ow y m (n - nyI y) c o v l j
 rw [k] at g
 have u:=hideS g;have c1:=BK (y:=y) o (by omega)
 have z:=nP i;clear g k b j l;generalize nyI y=N at *
 go_enter Tryz.func170,Tryz.ntmps170
 go_wp2_with (first | (go_at_call 189;refine (t.out _).mono ?_;rintro e f ⟨rfl,rfl⟩) | (go_at_call 190;refine (x.out _).mono ?_;rintro e f ⟨rfl,rfl⟩) | (go_at_call 192;refine (q.out _).mono ?_;rintro e f ⟨rfl,rfl⟩) | (go_at_call 191;refine (u.out _).mono ?_;rintro e f ⟨rfl,rfl⟩))
 (try simp only [Exit.inBlock,Exit.then])
 refine bodyPost_ret (me rfl _ _ _) rfl ?_
 exact⟨rfl,rfl⟩
theorem tR (n:Int) (w:World) (h:¬ (0<=n/\n<=109572)) :
  Calls Tryz.prog 170 #[.int .i64 n] w fun e a=>e=.returned (.tuple #[.int .i64 0,.int .i64 0,.int .i64 0,.int .i64 51])/\a=w:=by
 have b:=hideS (Kx n h);clear h
 go_enter Tryz.func170,Tryz.ntmps170
 go_wp2_with (go_at_call 189;refine (b.out _).mono ?_;rintro e a ⟨rfl,rfl⟩)
 (try simp only [Exit.inBlock,Exit.then])
 refine bodyPost_ret (me rfl _ _ _) rfl ?_
 exact⟨rfl,rfl⟩
open Classical in
noncomputable def ck (r:Rul) (y:Int):Option Int:=if r.kind=4 then (if yrI r.day=y then some r.day else none) else nR r y
noncomputable def mkB (W:Int) (r:Rul) (y n:Int):Bool:=(ck r y).map (fun g=>mvI W g r.mv)==some n
noncomputable def mkT (W:Int) (r:Rul) (Y n:Int):Nat->Bool
 | 0=>false
 | t+1=>mkT W r Y n t||mkB W r (Y - 1+t) n
noncomputable def mkK (W:Int) (rs:List Rul) (Y n:Int):Nat->Bool
 | 0=>false
 | k+1=>mkK W rs Y n k||mkT W (rs.getD k jw) Y n 3
theorem Nl {W n:Int} (a:0<=W) (c:W<=126):mvI W n 0=n:=by
 obtain⟨u,d,b⟩:=qY a c n;rw [zf b];unfold cQ;rw [if_pos (Or.inl rfl)]
theorem Nm {W:Int} {r:Rul} {Y n:Int} (f:0<=W) (h:W<=126) (g:cD r=true) (i:yrI n=Y):mkT W r Y n 3=Nj W r n Y:=by
 show (((false||mkB W r (Y - 1+((0:Nat):Int)) n)||mkB W r (Y - 1+((1:Nat):Int)) n)||mkB W r (Y - 1+((2:Nat):Int)) n)=_
 rw [show Y - 1+((0:Nat):Int)=Y - 1 by omega,show Y - 1+((1:Nat):Int)=Y by omega,show Y - 1+((2:Nat):Int)=Y+1 by omega,Bool.false_or]
 unfold Nj
 by_cases c:r.kind=4
 ·rw [if_pos c];have d:r.mv=0:=by
   rcases fit_cases g with⟨_,_,_,a⟩| ⟨_,⟨a,_⟩| ⟨a,_⟩| ⟨a,_⟩⟩
   ·exact a
   ·omega
   ·omega
   ·omega
  have b:∀ y,mkB W r y n=(decide (yrI r.day=y)&&(r.day==n)):=fun y=>by
   unfold mkB ck;rw [if_pos c]
   by_cases e:yrI r.day=y
   ·rw [if_pos e,Option.map_some,d,Nl f h,decide_eq_true e,Bool.true_and];rfl
   ·rw [if_neg e,decide_eq_false e,Bool.false_and];rfl
  rw [b,b,b]
  by_cases e:r.day=n
  ·rw [e,i,decide_eq_true (rfl:Y=Y)];simp
  ·rw [beq_eq_false_iff_ne.2 e];simp
 ·rw [if_neg c];have b:∀ y,mkB W r y n=(Kt W r y==some n):=fun y=>by
   unfold mkB ck Kt;rw [if_neg c]
  rw [b,b,b]
theorem Nn {W:Int} {rs:List Rul} {Y n:Int} (b:0<=W) (d:W<=126) (c:∀ r ∈ rs,cD r=true) (g:yrI n=Y):mkK W rs Y n rs.length=vQ W rs n Y:=by
 have a:∀ k,k<=rs.length->mkK W rs Y n k=(rs.take k).any fun r=>Nj W r n Y:=fun k=>by
  induction k with
  | zero=>intro _;rfl
  | succ k f=>
   intro h;have e:rs[k]? =some (rs.getD k jw):=by simp [List.getD,List.getElem?_eq_getElem (show k<rs.length by omega)]
   show (mkK W rs Y n k||mkT W (rs.getD k jw) Y n 3)=_
   rw [f (by omega),Nm b d (c _ (qZ (by omega))) g,List.take_add_one,e,List.any_append]
   simp
 rw [a _ (Nat.le_refl _),List.take_length]
 rfl
theorem Oh {n Y:Int} (y0:1900<=Y) (y1:Y<=2199) (h:nyI Y<=n) (i:n<nyI (Y+1)):yrI n=Y:=by
 have a:=eK (y:=1900) (z:=Y) (by omega) y0
 have b:=eK (y:=Y+1) (z:=2200) (by omega) (by omega)
 rw [qW] at a
 rw [vP] at b
 obtain⟨y,m,d,c⟩:=iJ (n:=n) (by omega) (by omega)
 rw [tO c];have g:=c.year;have f:=c.1.1;rcases Int.lt_trichotomy y Y with e | e | e
 ·have:=eK (y:=y+1) (z:=Y) (by omega) (by omega);omega
 ·exact e
 ·have:=eK (y:=Y+1) (z:=y) (by omega) (by omega);omega
theorem Qy {n:Int} (hn:ap n):1900<=yrI n/\yrI n<=2199/\nyI (yrI n)<=n/\n<nyI (yrI n+1):=by
 obtain⟨y,m,d,a⟩:=iJ hn.1 hn.2;rw [tO a];exact⟨a.1.1,a.1.2.1,a.year⟩
theorem FT (Y:Int):aX Y 1 1=nyI Y:=by unfold aX;rw [eU];omega
theorem Kz {Y:Int} (h:1900<=Y):aX Y 12 31=nyI (Y+1) - 1:=by
 have e:=gQ (y:=Y) (m:=12) (by omega) (by omega)
 rw [show (12+1:Int)=13 by decide,lZ] at e
 have a:cI Y 12=31:=by unfold cI;rw [if_neg (by decide),if_neg (by decide)]
 rw [lY h];unfold aX;omega
theorem BR {Y:Int} (y0:1900<=Y) (y1:Y<=2199):okD Y 1 1:=⟨y0,y1,by decide,by decide,by decide,by have:=jr Y 1;omega⟩
theorem KA {Y:Int} (y0:1900<=Y) (y1:Y<=2199):okD Y 12 31:=⟨y0,y1,by decide,by decide,by decide,by unfold cI;rw [if_neg (by decide),if_neg (by decide)];decide⟩
theorem KB {W:Int} {r:Rul} {y n:Int} (h:ck r y=none):mkB W r y n=false:=by unfold mkB;rw [h];rfl
theorem zp {W:Int} {r:Rul} {y n g:Int} (h:ck r y=some g):mkB W r y n=decide (mvI W g r.mv=n):=by
 unfold mkB;rw [h,Option.map_some]
 by_cases e:mvI W g r.mv=n
 ·rw [e,decide_eq_true rfl];simp
 ·rw [decide_eq_false e];simpa using e
theorem aK (n lo hi:Int) (w:World) :
  Calls Tryz.prog 209 #[.int .i64 n,.int .i64 lo,.int .i64 hi] w fun e a=>e=.returned (.bool (decide (lo<=n/\n<=hi)))/\a=w:=by
 by_cases c:lo<=n<;>by_cases b:n<=hi
 all_goals
  first | rw [decide_eq_true (⟨c,b⟩:lo<=n/\n<=hi)] | rw [decide_eq_false (fun h:lo<=n/\n<=hi=>by omega)]
  go_enter Tryz.func209,Tryz.ntmps209
  go_wp2
  go_ret
  exact⟨rfl,rfl⟩
theorem rg (n:Int) (w:World) :
  Calls Tryz.prog 194 #[.int .i64 n] w fun e a=>e=.returned (.bool (decide (ap n)))/\a=w:=by
 have c:=hideS (fun b=>aK n 0 109572 b)
 rw [show decide (ap n)=decide (0<=n/\n<=109572) from decide_eq_decide.2 Iff.rfl]
 generalize decide (0<=n/\n<=109572)=R at *
 go_enter Tryz.func194,Tryz.ntmps194
 go_wp2_with (go_at_call 209;refine (c.out _).mono ?_;rintro e d ⟨rfl,rfl⟩)
 go_ret
 exact⟨rfl,rfl⟩
theorem KC (n:Int):bits .and .i64 n 1=n % 2:=by
 have b:(BitVec.ofInt 64 1).toNat=2^1 - 1:=by decide
 have a:(BitVec.ofInt 64 n&&& BitVec.ofInt 64 1).toNat=(n % ((2^64:Nat):Int)).toNat % 2^1:=by
  rw [BitVec.toNat_and,BitVec.toNat_ofInt,b,Nat.and_two_pow_sub_one_eq_mod]
 show IntKind.i64.wrap ((BitVec.ofInt 64 n&&& BitVec.ofInt 64 1).toNat:Nat)=n % 2
 rw [a,IntKind.wrap_i64];omega
theorem kq (W n:Int) (w:World) (i: -7<=n) (h:n<=1000000) :
  Calls Tryz.prog 210 #[.int .i64 W,.int .i64 n] w fun e d=>e=.returned (.bool (eE W n))/\d=w:=by
 obtain⟨k,c⟩:∃ k:Nat,n % 7=k:=⟨(n % 7).toNat,by omega⟩
 have f:(n+7) % 7=(k:Int):=by omega
 have g:k<=6:=by omega
 have a:=KC (W / 2^k);unfold eE;rw [c];have b:Hid ((W / ((2^(((k:Nat):Int)).toNat:Nat):Int) % 2==1)=(W / 2^k % 2==1)):=by
  show _=_
  rw [Int.toNat_natCast,Int.natCast_pow];rfl
 clear c;rw [b.out];clear b
 go_enter Tryz.func210,Tryz.ntmps210
 go_wp2_with fail
 go_ret
 exact⟨rfl,rfl⟩
theorem KD {W n mv:Int} {u d:Nat} (b:Ups W n u d) (a:u=0):cQ W n mv u d=n:=by
 unfold cQ;rw [if_pos (Or.inr (by have:=b.uf;rw [a] at this;simpa using this))]
theorem PF {W n mv:Int} {u d:Nat} (c:Ups W n u d) (g:mv≠0) (e:mv=2->u<=d):cQ W n mv u d=n+u:=by
 by_cases b:u=0
 ·rw [KD c b,b];omega
 ·unfold cQ;have f:eE W n=true:=by have:=c.uo 0 (by omega);simpa using this
  rw [if_neg (fun a=>by
   rcases a with a | a
   ·exact g a
   ·rw [f] at a;exact Bool.noConfusion a),if_neg (fun a=>by have:=e a.1;omega)]
theorem KE {W n mv:Int} {u d:Nat} (b:Ups W n u d) (e:mv=2) (f:d<u):cQ W n mv u d=n - d:=by
 unfold cQ;have c:eE W n=true:=by have:=b.uo 0 (by omega);simpa using this
 rw [if_neg (fun a=>by
   rcases a with a | a
   ·omega
   ·rw [c] at a;exact Bool.noConfusion a),if_pos ⟨e,by omega⟩]
theorem jV (W n mv:Int) (u d:Nat) (w:World) (I: -1<=n) (H:n<=500000) (s:Ups W n u d) :
  Calls Tryz.prog 226 #[.int .i64 n,.int .i64 mv,.int .i64 W] w fun e c=>e=.returned (.int .i64 (cQ W n mv u d))/\c=w:=by
 have A:Hid (∀ x f,-7<=x->x<=1000000->Calls Tryz.prog 210 #[.int .i64 W,.int .i64 x] f fun e c=>e=.returned (.bool (eE W x))/\c=f):=fun x f a b=>kq W x f a b
 have h:=hideS s;have J:=s.ub;have K:=s.db;obtain⟨R,t⟩:∃ R,cQ W n mv u d=R:=⟨_,rfl⟩;rw [t];have z:=hideS t;clear t s
 by_cases o:mv=0
 ·have l:Hid (n=R):=by
   show _=_
   rw [<- z.out];unfold cQ;rw [if_pos (Or.inl o)]
  subst o
  go_enter Tryz.func226,Tryz.ntmps226
  go_wp2_with fail
  go_ret
  obtain rfl:=l.out;exact⟨rfl,rfl⟩
 ·have D:(mv==0)=false:=beq_eq_false_iff_ne.2 o;have C:=hideS o;clear o
  go_enter Tryz.func226,Tryz.ntmps226
  go_wp2_with fail
  go_loop [11] (fun i=>∃ (k:Nat),k<=u/\i=.int .i64 k/\Hid (mv=2->k<=d)) (fun i=>u+1 - (intOf i).toNat)
  case atStart=>exact⟨0,by omega,rfl,fun _=>by omega⟩
  case round=>
   obtain⟨k,G,rfl,HK⟩:=hrel;have F:(k:Int)<7:=by omega
   have j:=hideS (fun f=>A.out (n+k) f (by omega) (by omega))
   by_cases m:k<u
   ·have q:eE W (n+k)=true:=h.out.uo k m;rw [q] at j
    clear q
    by_cases g:mv=2
    ·have r:=hideS (fun f=>A.out (n - k) f (by omega) (by omega))
     have B:=HK.out g
     by_cases v:k<d
     ·have p:eE W (n - k)=true:=h.out.dn k v;rw [p] at r
      clear p;subst g
      go_wp2_with (first | (go_at_call_of 210 (Value.int IntKind.i64 (n+k));refine (j.out _).mono ?_;rintro e c ⟨rfl,rfl⟩) | (go_at_call_of 210 (Value.int IntKind.i64 (n - k));refine (r.out _).mono ?_;rintro e c ⟨rfl,rfl⟩))
      go_round
      case rel=>exact⟨k+1,by omega,by go_num,fun _=>by omega⟩
      case measure=>simp [intOf];omega
     ·obtain rfl:k=d:=by omega
      have p:eE W (n - k)=false:=h.out.df;rw [p] at r
      clear p;have l:Hid (n - k=R):=by
       show _=_
       rw [<- z.out,KE h.out g m]
      subst g
      go_wp2_with (first | (go_at_call_of 210 (Value.int IntKind.i64 (n+k));refine (j.out _).mono ?_;rintro e c ⟨rfl,rfl⟩) | (go_at_call_of 210 (Value.int IntKind.i64 (n - k));refine (r.out _).mono ?_;rintro e c ⟨rfl,rfl⟩))
      go_ret
      obtain rfl:=l.out;exact⟨rfl,rfl⟩
    ·have E:(mv==2)=false:=beq_eq_false_iff_ne.2 g;have y:Hid (mv=2->k+1<=d):=fun a=>absurd a g
     clear g
     go_wp2_with (go_at_call 210;refine (j.out _).mono ?_;rintro e c ⟨rfl,rfl⟩)
     go_round
     case rel=>exact⟨k+1,by omega,by go_num,y⟩
     case measure=>simp [intOf];omega
   ·obtain rfl:k=u:=by omega
    have q:eE W (n+k)=false:=h.out.uf;rw [q] at j
    clear q;have l:Hid (n+k=R):=by
     show _=_
     rw [<- z.out,PF h.out C.out HK.out]
    go_wp2_with (go_at_call 210;refine (j.out _).mono ?_;rintro e c ⟨rfl,rfl⟩)
    go_ret
    obtain rfl:=l.out;exact⟨rfl,rfl⟩
theorem Qz (mon day nth wd off fr to mv:Int):cD ⟨1,mon,day,nth,wd,off,fr,to,mv⟩=decide ((1900<=fr/\fr<=2199/\fr<=to/\to<=2199/\0<=mv/\mv<=2)/\nth=0/\wd=0/\off=0/\1<=mon/\mon<=12/\1<=day/\day<=tN mon):=by
 by_cases h:BN fr to mv
 ·rw [QO h];exact decide_eq_decide.2 ⟨fun a=>⟨h,a⟩,fun a=>a.2⟩
 ·rw [vR (by decide) h,decide_eq_false (fun a=>h a.1)]
theorem QA (mon day nth wd off fr to mv:Int):cD ⟨2,mon,day,nth,wd,off,fr,to,mv⟩=decide ((1900<=fr/\fr<=2199/\fr<=to/\to<=2199/\0<=mv/\mv<=2)/\day=0/\off=0/\1<=mon/\mon<=12/\0<=wd/\wd<=6/\1<=nth/\nth<=5):=by
 by_cases h:BN fr to mv
 ·rw [QP h];exact decide_eq_decide.2 ⟨fun a=>⟨h,a⟩,fun a=>a.2⟩
 ·rw [vR (by decide) h,decide_eq_false (fun a=>h a.1)]
theorem QB (mon day nth wd off fr to mv:Int):cD ⟨3,mon,day,nth,wd,off,fr,to,mv⟩=decide ((1900<=fr/\fr<=2199/\fr<=to/\to<=2199/\0<=mv/\mv<=2)/\mon=0/\day=0/\nth=0/\wd=0/\-100<=off/\off<=100):=by
 by_cases h:BN fr to mv
 ·rw [QQ h];exact decide_eq_decide.2 ⟨fun a=>⟨h,a⟩,fun a=>a.2⟩
 ·rw [vR (by decide) h,decide_eq_false (fun a=>h a.1)]
theorem iK (w:World) (b a:Obj):Below w.heap.size w ((w.alloc b).alloc a):=((Below.refl w.heap.size w).alloc (Nat.le_refl _) _).alloc (by simp) _
theorem BS (n:Int) (w:World) :
  Calls Tryz.prog 194 #[.int .i64 n] w fun e a=>e=.returned (.bool (decide (0<=n/\n<=109572)))/\a=w:=by
 have:=rg n w;rw [show decide (ap n)=decide (0<=n/\n<=109572) from decide_eq_decide.2 Iff.rfl] at this
 exact this
theorem nh (kind mon day nth wd off fr to mv:Int) (w:World) :
  Calls Tryz.prog 254 #[.agg #[.int .i64 kind,.int .i64 mon,.int .i64 day,.int .i64 nth,.int .i64 wd,.int .i64 off,.int .i64 fr,.int .i64 to,.int .i64 mv]] w fun e b=>e=.returned (.bool (decide (1900<=fr/\fr<=2199/\fr<=to/\to<=2199/\0<=mv/\mv<=2)))/\Below w.heap.size w b:=by
 obtain⟨R,a⟩:∃ R,decide (1900<=fr/\fr<=2199/\fr<=to/\to<=2199/\0<=mv/\mv<=2)=R:=⟨_,rfl⟩;rw [a];have c:=hideS a;clear a
 go_enter Tryz.func254,Tryz.ntmps254
 go_wp2_with (go_at_call 209;refine (aK _ _ _ _).mono ?_;rintro e d ⟨rfl,rfl⟩)
 all_goals
  go_ret
  refine⟨zg (Eq.trans ?_ c.out),(Below.refl w.heap.size w).alloc (Nat.le_refl _) _⟩
  first | exact (decide_eq_false (by omega)).symm | exact decide_eq_decide.2 (by omega) | (rw [Bool.eq_iff_iff];simp only [Bool.and_eq_true,decide_eq_true_eq];omega)
theorem KF {m:Int} (a:1<=m) (b:m<=12):cI 2000 m=tN m:=by
 rcases month_cases a b with rfl | rfl | rfl | rfl | rfl | rfl | rfl | rfl | rfl | rfl | rfl | rfl<;>decide
theorem KG (mon day nth wd off fr to mv:Int) (w:World) :
  Calls Tryz.prog 262 #[.agg #[.int .i64 4,.int .i64 mon,.int .i64 day,.int .i64 nth,.int .i64 wd,.int .i64 off,.int .i64 fr,.int .i64 to,.int .i64 mv]] w fun e b=>e=.returned (.bool (cD ⟨4,mon,day,nth,wd,off,fr,to,mv⟩))/\Below w.heap.size w b:=by
 rw [QN];obtain⟨R,a⟩:∃ R,decide (mon=0/\nth=0/\wd=0/\off=0/\fr=0/\to=0/\mv=0/\0<=day/\day<=109572)=R:=⟨_,rfl⟩;rw [a];have c:=hideS a;clear a
 go_enter Tryz.func262,Tryz.ntmps262
 go_wp2_with (go_at_call 194;refine (BS _ _).mono ?_;rintro e d ⟨rfl,rfl⟩)
 all_goals
  go_ret
  refine⟨zg (Eq.trans ?_ c.out),(Below.refl w.heap.size w).alloc (Nat.le_refl _) _⟩
  first | exact (decide_eq_false (by omega)).symm | exact decide_eq_decide.2 (by omega) | (rw [Bool.eq_iff_iff];simp only [Bool.and_eq_true,decide_eq_true_eq];omega)
theorem KH (mon day nth wd off fr to mv:Int) (w:World) :
  Calls Tryz.prog 258 #[.agg #[.int .i64 3,.int .i64 mon,.int .i64 day,.int .i64 nth,.int .i64 wd,.int .i64 off,.int .i64 fr,.int .i64 to,.int .i64 mv]] w fun e i=>e=.returned (.bool (cD ⟨3,mon,day,nth,wd,off,fr,to,mv⟩))/\Below w.heap.size w i:=by
 rw [QB];obtain⟨R,c⟩:∃ R,decide ((1900<=fr/\fr<=2199/\fr<=to/\to<=2199/\0<=mv/\mv<=2)/\mon=0/\day=0/\nth=0/\wd=0/\-100<=off/\off<=100)=R:=⟨_,rfl⟩;rw [c];have f:=hideS c;clear c;have b:=hideS (iK w);have j:=hideS (fun a mon day nth wd off fr to mv h=>nh a mon day nth wd off fr to mv h)
 go_enter Tryz.func258,Tryz.ntmps258
 go_wp2_with (first | (go_at_call 209;refine (aK _ _ _ _).mono ?_;rintro e g ⟨rfl,rfl⟩) | (go_at_call 254;refine (j.out _ _ _ _ _ _ _ _ _ _).mono ?_;rintro e g ⟨rfl,d⟩))
 all_goals
  go_ret
  first
  | refine⟨zg (Eq.trans ?_ f.out),b.out _ _⟩
  | refine⟨zg (Eq.trans ?_ f.out),(b.out _ _).trans (d.mono (by simp<;>omega))⟩
  first | exact (decide_eq_false (by omega)).symm | exact decide_eq_decide.2 (by omega) | (rw [Bool.eq_iff_iff];simp only [Bool.and_eq_true,decide_eq_true_eq];omega)
theorem KI (mon day nth wd off fr to mv:Int) (w:World) :
  Calls Tryz.prog 256 #[.agg #[.int .i64 2,.int .i64 mon,.int .i64 day,.int .i64 nth,.int .i64 wd,.int .i64 off,.int .i64 fr,.int .i64 to,.int .i64 mv]] w fun e i=>e=.returned (.bool (cD ⟨2,mon,day,nth,wd,off,fr,to,mv⟩))/\Below w.heap.size w i:=by
 rw [QA];obtain⟨R,c⟩:∃ R,decide ((1900<=fr/\fr<=2199/\fr<=to/\to<=2199/\0<=mv/\mv<=2)/\day=0/\off=0/\1<=mon/\mon<=12/\0<=wd/\wd<=6/\1<=nth/\nth<=5)=R:=⟨_,rfl⟩;rw [c];have f:=hideS c;clear c;have b:=hideS (iK w);have j:=hideS (fun a mon day nth wd off fr to mv h=>nh a mon day nth wd off fr to mv h)
 go_enter Tryz.func256,Tryz.ntmps256
 go_wp2_with (first | (go_at_call 209;refine (aK _ _ _ _).mono ?_;rintro e g ⟨rfl,rfl⟩) | (go_at_call 254;refine (j.out _ _ _ _ _ _ _ _ _ _).mono ?_;rintro e g ⟨rfl,d⟩))
 all_goals
  go_ret
  first
  | refine⟨zg (Eq.trans ?_ f.out),b.out _ _⟩
  | refine⟨zg (Eq.trans ?_ f.out),(b.out _ _).trans (d.mono (by simp<;>omega))⟩
  first | exact (decide_eq_false (by omega)).symm | exact decide_eq_decide.2 (by omega) | (rw [Bool.eq_iff_iff];simp only [Bool.and_eq_true,decide_eq_true_eq];omega)
theorem KJ (mon day nth wd off fr to mv:Int) (w:World) :
  Calls Tryz.prog 253 #[.agg #[.int .i64 1,.int .i64 mon,.int .i64 day,.int .i64 nth,.int .i64 wd,.int .i64 off,.int .i64 fr,.int .i64 to,.int .i64 mv]] w fun e l=>e=.returned (.bool (cD ⟨1,mon,day,nth,wd,off,fr,to,mv⟩))/\Below w.heap.size w l:=by
 rw [Qz];have b:=hideS (iK w);have m:=hideS (fun d mon day nth wd off fr to mv f=>nh d mon day nth wd off fr to mv f)
 by_cases c:1<=mon/\mon<=12
 ·have g:=hideS (fun f=>fK 2000 mon f ⟨by decide,by decide,c.1,c.2⟩)
  rw [KF c.1 c.2] at g
  generalize tN mon=L at *
  obtain⟨R,i⟩:∃ R,decide ((1900<=fr/\fr<=2199/\fr<=to/\to<=2199/\0<=mv/\mv<=2)/\nth=0/\wd=0/\off=0/\1<=mon/\mon<=12/\1<=day/\day<=L)=R:=⟨_,rfl⟩;rw [i];have k:=hideS i;clear i
  go_enter Tryz.func253,Tryz.ntmps253
  go_wp2_with (first | (go_at_call 205;refine (g.out _).mono ?_;rintro e h ⟨rfl,rfl⟩) | (go_at_call 209;refine (aK _ _ _ _).mono ?_;rintro e h ⟨rfl,rfl⟩) | (go_at_call 254;refine (m.out _ _ _ _ _ _ _ _ _ _).mono ?_;rintro e h ⟨rfl,j⟩))
  all_goals
   go_ret
   first
   | refine⟨zg (Eq.trans ?_ k.out),b.out _ _⟩
   | refine⟨zg (Eq.trans ?_ k.out),(b.out _ _).trans (j.mono (by simp<;>omega))⟩
   first | exact (decide_eq_false (by omega)).symm | exact decide_eq_decide.2 (by omega) | (rw [Bool.eq_iff_iff];simp only [Bool.and_eq_true,decide_eq_true_eq];omega)
 ·have g:=hideS (fun f=>jt 2000 mon f (fun a=>c ⟨a.2.2.1,a.2.2.2⟩))
  rw [decide_eq_false (fun a=>c ⟨a.2.2.2.2.1,a.2.2.2.2.2.1⟩)]
  clear c
  go_enter Tryz.func253,Tryz.ntmps253
  go_wp2_with (go_at_call 205;refine (g.out _).mono ?_;rintro e h ⟨rfl,rfl⟩)
  all_goals
   go_ret
   exact⟨rfl,b.out _ _⟩
theorem KK (w:World) :
  Calls Tryz.prog 264 #[.agg #[]] w fun e a=>e=.returned (.bool false)/\Below w.heap.size w a:=by
 go_enter Tryz.func264,Tryz.ntmps264
 go_wp2_with fail
 go_ret
 exact⟨rfl,(Below.refl w.heap.size w).alloc (Nat.le_refl _) _⟩
def tyK (k:Int):Nat:=if k=1 then 240 else if k=2 then 241 else if k=3 then 242 else 243
theorem bD (kind mon day nth wd off fr to mv:Int) (w:World) (b:kind=1\/kind=2\/kind=3\/kind=4) :
  Calls Tryz.prog 208 #[.agg #[.int .i64 kind,.int .i64 mon,.int .i64 day,.int .i64 nth,.int .i64 wd,.int .i64 off,.int .i64 fr,.int .i64 to,.int .i64 mv]] w fun e a=>e=.returned (.iface (tyK kind) (.agg #[.int .i64 kind,.int .i64 mon,.int .i64 day,.int .i64 nth,.int .i64 wd,.int .i64 off,.int .i64 fr,.int .i64 to,.int .i64 mv]))/\Below w.heap.size w a:=by
 rcases b with rfl | rfl | rfl | rfl
 all_goals
  go_enter Tryz.func208,Tryz.ntmps208
  go_wp2_with fail
  go_ret
  exact⟨rfl,(Below.refl w.heap.size w).alloc (Nat.le_refl _) _⟩
theorem rh (kind mon day nth wd off fr to mv:Int) (w:World) (b:¬ (kind=1\/kind=2\/kind=3\/kind=4)) :
  Calls Tryz.prog 208 #[.agg #[.int .i64 kind,.int .i64 mon,.int .i64 day,.int .i64 nth,.int .i64 wd,.int .i64 off,.int .i64 fr,.int .i64 to,.int .i64 mv]] w fun e c=>e=.returned (.iface 245 (.agg #[]))/\Below w.heap.size w c:=by
 have f:(kind==1)=false:=beq_eq_false_iff_ne.2 (fun a=>b (by omega))
 have h:(kind==2)=false:=beq_eq_false_iff_ne.2 (fun a=>b (by omega))
 have d:(kind==3)=false:=beq_eq_false_iff_ne.2 (fun a=>b (by omega))
 have g:(kind==4)=false:=beq_eq_false_iff_ne.2 (fun a=>b (by omega))
 clear b
 go_enter Tryz.func208,Tryz.ntmps208
 go_wp2_with fail
 go_ret
 exact⟨rfl,(Below.refl w.heap.size w).alloc (Nat.le_refl _) _⟩
end Go.Proofs.YtfdddijdjpijbaaGreat
