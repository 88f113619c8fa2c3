/-  -/
import Derived.Below
namespace Go.Proofs.YtfdddijdjpijbaaGreat
open Go.RowKit
def leapB (y:Int):Bool:=(y.tmod 4==0)&&(y.tmod 100 !=0)||(y.tmod 400==0)
def lpI (y:Int):Int:=if leapB y then 1 else 0
def cI (y m:Int):Int:=if m=2 then 28+lpI y else if m=4\/m=6\/m=9\/m=11 then 30 else 31
def ov (y:Int):Int:=y / 4 - y / 100+y / 400
def nyI (y:Int):Int:=365*(y - 1900)+ov (y - 1) - 460
def cG (y m:Int):Int:=(367*m - 362) / 12 - (if m<=2 then 0 else 2 - lpI y)
def okD (y m d:Int):Prop:=1900<=y/\y<=2199/\1<=m/\m<=12/\1<=d/\d<=cI y m
def aX (y m d:Int):Int:=nyI y+cG y m+d - 1
def IsD (n y m d:Int):Prop:=okD y m d/\n=aX y m d
theorem lp_cases (y:Int):lpI y=0\/lpI y=1:=by
 unfold lpI;cases leapB y
 ·exact Or.inl rfl
 ·exact Or.inr rfl
theorem Km (y:Int):0<=lpI y:=by rcases lp_cases y with e | e<;>omega
theorem Du (y:Int):lpI y<=1:=by rcases lp_cases y with e | e<;>omega
theorem jr (y m:Int):28<=cI y m:=by
 have:=Km y;unfold cI
 split
 ·omega
 ·split<;>omega
theorem js (y m:Int):cI y m<=31:=by
 have:=Du y;unfold cI
 split
 ·omega
 ·split<;>omega
theorem Ko {y:Int} (h:0<=y):leapB y=true↔(y % 4=0/\y % 100≠0\/y % 400=0):=by
 unfold leapB;rw [Int.tmod_eq_emod_of_nonneg h,Int.tmod_eq_emod_of_nonneg h,Int.tmod_eq_emod_of_nonneg h];simp
theorem Pz {y:Int} (h:0<=y):(lpI y=1/\(y % 4=0/\y % 100≠0\/y % 400=0))\/(lpI y=0/\¬ (y % 4=0/\y % 100≠0\/y % 400=0)):=by
 have e:=Ko h;unfold lpI;cases a:leapB y
 ·rw [a] at e
  exact Or.inr ⟨rfl,fun h=>Bool.noConfusion (e.2 h)⟩
 ·exact Or.inl ⟨rfl,e.1 a⟩
theorem lY {y:Int} (h:1900<=y):nyI (y+1)=nyI y+365+lpI y:=by
 have:=Pz (y:=y) (by omega)
 unfold nyI ov;omega
theorem qW:nyI 1900=0:=by decide
theorem vP:nyI 2200=109573:=by decide
theorem eK {y z:Int} (_h:1900<=y) (a:y<=z):nyI y<=nyI z:=by
 unfold nyI ov;omega
theorem nP {y:Int} (h:1900<=y):365*(y - 1900)<=nyI y:=by unfold nyI ov;omega
theorem nQ {y:Int} (h:1900<=y):nyI y<=366*(y - 1900):=by unfold nyI ov;omega
theorem month_cases {m:Int} (h:1<=m) (a:m<=12):m=1\/m=2\/m=3\/m=4\/m=5\/m=6\/m=7\/m=8\/m=9\/m=10\/m=11\/m=12:=by omega
theorem eU (y:Int):cG y 1=0:=by unfold cG;rw [if_pos (by decide)];decide
theorem gQ {y m:Int} (h:1<=m) (b:m<=12):cG y (m+1)=cG y m+cI y m:=by
 have a:=lp_cases y;unfold cG cI;generalize lpI y=l at *
 rcases month_cases h b with rfl | rfl | rfl | rfl | rfl | rfl | rfl | rfl | rfl | rfl | rfl | rfl<;>rcases a with rfl | rfl<;>decide
theorem lZ (y:Int):cG y 13=365+lpI y:=by
 unfold cG;rw [if_neg (by decide)]
 rw [show ((367*13 - 362) / 12:Int)=367 by decide];omega
theorem gR {y m k:Int} (h:1<=m) (c:m<=k) (d:k<=13):cG y m<=cG y k:=by
 have a:=Km y;have b:=Du y;unfold cG
 split<;>split<;>omega
theorem BK {y m:Int} (h:1<=m) (a:m<=13):0<=cG y m:=by
 rw [<- eU y];exact gR (by omega) h a
theorem Kp {y m:Int} (h:1<=m) (a:m<=13):cG y m<=366:=by
 have:=gR (y:=y) h a (by omega)
 rw [lZ] at this
 have:=Du y;omega
theorem IsD.year {n y m d:Int} (h:IsD n y m d):nyI y<=n/\n<nyI (y+1):=by
 obtain⟨⟨f,g,c,e,j,i⟩,rfl⟩:=h;have a:=BK (y:=y) c (by omega)
 have b:=gR (y:=y) (m:=m+1) (k:=13) (by omega) (by omega) (by omega)
 rw [lZ,gQ c e] at b
 rw [lY f];unfold aX;omega
theorem IsD.range {n y m d:Int} (h:IsD n y m d):0<=n/\n<=109572:=by
 have:=h.year;obtain⟨⟨c,f,i,e,j,g⟩,rfl⟩:=h;have a:=eK (y:=1900) (z:=y) (by omega) c
 have b:=eK (y:=y+1) (z:=2200) (by omega) (by omega)
 rw [qW] at a
 rw [vP] at b
 omega
theorem IsD.month {n y m d:Int} (h:IsD n y m d):cG y m<=n - nyI y/\n - nyI y<cG y (m+1):=by
 obtain⟨⟨e,c,b,a,g,f⟩,rfl⟩:=h;rw [gQ b a];unfold aX;omega
theorem IsD.unique {n y m d c f d':Int} (h:IsD n y m d) (g:IsD n c f d'):y=c/\m=f/\d=d':=by
 have a:=h.year;have s:=g.year;have j:y=c:=by
  rcases Int.lt_trichotomy y c with e | e | e
  ·have:=eK (y:=y+1) (z:=c) (by have:=h.1.1;omega) (by omega)
   omega
  ·exact e
  ·have:=eK (y:=c+1) (z:=y) (by have:=g.1.1;omega) (by omega)
   omega
 subst j;have b:=h.month;have q:=g.month;have o:m=f:=by
  obtain⟨⟨_,_,t,r,_,_⟩,_⟩:=h;obtain⟨⟨_,_,i,p,_,_⟩,_⟩:=g;rcases Int.lt_trichotomy m f with e | e | e
  ·have:=gR (y:=y) (m:=m+1) (k:=f) (by omega) (by omega) (by omega)
   omega
  ·exact e
  ·have:=gR (y:=y) (m:=f+1) (k:=m) (by omega) (by omega) (by omega)
   omega
 subst o;refine⟨rfl,rfl,?_⟩
 have e:=h.2;have l:=g.2;unfold aX at e l
 omega
theorem Ng (k:Nat) (n:Int) (g:0<=n) (h:n<nyI (1900+k)):∃ y,1900<=y/\y<1900+(k:Int)/\nyI y<=n/\n<nyI (y+1):=by
 induction k with
 | zero=>
  rw [show (1900+((0:Nat):Int))=1900 by rfl,qW] at h
  omega
 | succ k e=>
  by_cases f:n<nyI (1900+k)
  ·obtain⟨y,a,b,c,d⟩:=e f;exact⟨y,a,by omega,c,d⟩
  ·refine⟨1900+k,by omega,by omega,by omega,?_⟩
   rw [show (1900+(k:Int)+1)=1900+((k+1:Nat):Int) by omega]
   exact h
theorem Kq (y r:Int) (k:Nat) (i:k<=12) (g:0<=r) (h:r<cG y (1+k)):∃ m,1<=m/\m<1+(k:Int)/\cG y m<=r/\r<cG y (m+1):=by
 induction k with
 | zero=>
  rw [show (1+((0:Nat):Int))=1 by rfl,eU] at h
  omega
 | succ k f=>
  by_cases e:r<cG y (1+k)
  ·obtain⟨m,a,b,c,d⟩:=f (by omega) e
   exact⟨m,a,by omega,c,d⟩
  ·refine⟨1+k,by omega,by omega,by omega,?_⟩
   rw [show (1+(k:Int)+1)=1+((k+1:Nat):Int) by omega]
   exact h
theorem iJ {n:Int} (h:0<=n) (k:n<=109572):∃ y m d,IsD n y m d:=by
 obtain⟨y,a,b,c,e⟩:=Ng 300 n h (by rw [show (1900+((300:Nat):Int))=2200 by rfl,vP];omega)
 rw [lY a] at e
 obtain⟨m,f,g,i,j⟩:=Kq y (n - nyI y) 12 (by omega) (by omega) (by rw [show (1+((12:Nat):Int))=13 by rfl,lZ];omega)
 rw [gQ f (by omega)] at j
 refine⟨y,m,n - nyI y - cG y m+1,⟨a,by omega,f,by omega,by omega,by omega⟩,?_⟩
 unfold aX;omega
theorem mY {y m d:Int} (h:okD y m d):IsD (aX y m d) y m d:=⟨h,rfl⟩
def eaG (b:Int):Int:=(b - (b+8) / 25+1) / 3
def eaH (y:Int):Int:=(19*(y % 19)+y / 100 - y / 100 / 4 - eaG (y / 100)+15) % 30
def eaL (y:Int):Int:=(32+2*(y / 100 % 4)+2*(y % 100 / 4) - eaH y - y % 100 % 4) % 7
def eaT (y:Int):Int:=eaH y+eaL y - 7*((y % 19+11*eaH y+22*eaL y) / 451)+114
def Kr (y:Int):Bool:=
 decide (eaT y / 31=3\/eaT y / 31=4)&&decide (eaT y % 31+1<=cI y (eaT y / 31))&&decide ((aX y (eaT y / 31) (eaT y % 31+1)) % 7=6)&&decide (aX y 3 22<=aX y (eaT y / 31) (eaT y % 31+1))&&decide (aX y (eaT y / 31) (eaT y % 31+1)<=aX y 4 25)&&decide (eaT y<=200)&&decide (0<=eaT y)
theorem PA:∀ i<20,∀ j<15,Kr (1900+15*((i:Nat):Int)+((j:Nat):Int))=true:=by decide+kernel
structure EaOk (y:Int):Prop where
 mon:eaT y / 31=3\/eaT y / 31=4
 ok:okD y (eaT y / 31) (eaT y % 31+1)
 sun:(aX y (eaT y / 31) (eaT y % 31+1)) % 7=6
 lo:aX y 3 22<=aX y (eaT y / 31) (eaT y % 31+1)
 hi:aX y (eaT y / 31) (eaT y % 31+1)<=aX y 4 25
 small:eaT y<=200
 pos:0<=eaT y
theorem tL {y:Int} (h:1900<=y) (j:y<=2199):EaOk y:=by
 have e:=PA ((y - 1900) / 15).toNat (by omega) ((y - 1900) % 15).toNat (by omega)
 rw [show 1900+15*((((y - 1900) / 15).toNat:Nat):Int)+((((y - 1900) % 15).toNat:Nat):Int)=y by omega] at e
 unfold Kr at e
 simp only [Bool.and_eq_true,decide_eq_true_eq] at e
 obtain⟨⟨⟨⟨⟨⟨a,b⟩,c⟩,d⟩,f⟩,g⟩,i⟩:=e;refine⟨a,?_,c,d,f,g,i⟩
 unfold okD;exact⟨h,j,by omega,by omega,by omega,b⟩
structure Rul where
 (kind mon day nth wd off fr to mv:Int)
deriving DecidableEq
def eE (W n:Int):Bool:=W / ((2^(n % 7).toNat:Nat):Int) % 2==1
theorem Nh {W:Int} (c:0<=W) (h:W<=126):∃ r:Int,0<=r/\r<=6/\eE W r=false:=by
 by_cases a:∀ j<7,eE W ((j:Nat):Int)=true
 ·exfalso
  have e:∀ g<127,¬ (∀ j<7,eE ((g:Nat):Int) ((j:Nat):Int)=true):=by decide+kernel
  obtain⟨w,rfl⟩:=Int.eq_ofNat_of_zero_le c;exact e w (by omega) a
 ·obtain⟨j,f⟩:=Classical.not_forall.1 a;obtain⟨d,b⟩:=Classical.not_imp.1 f;exact⟨j,by omega,by omega,by simpa using b⟩
structure Ups (W n:Int) (u d:Nat):Prop where
 ub:u<=6
 db:d<=6
 uf:eE W (n+u)=false
 df:eE W (n - d)=false
 uo:∀ j<u,eE W (n+j)=true
 dn:∀ j<d,eE W (n - j)=true
theorem Ks {p:Nat->Bool} (N:Nat):(∃ i≤N,p i=false)->∃ k≤N,p k=false/\∀ j<k,p j=true:=by
 induction N with
 | zero=>
  rintro⟨i,hi,c⟩;obtain rfl:i=0:=by omega
  exact⟨0,by omega,c,fun j g=>by omega⟩
 | succ N e=>
  rintro⟨i,hi,c⟩
  by_cases d:∃ i≤N,p i=false
  ·obtain⟨k,l,a,b⟩:=e d;exact⟨k,by omega,a,b⟩
  ·obtain rfl:i=N+1:=by
    by_cases h:i<=N
    ·exact absurd ⟨i,h,c⟩ d
    ·omega
   exact⟨N+1,Nat.le_refl _,c,fun j g=>by
    cases f:p j
    ·exact absurd ⟨j,by omega,f⟩ d
    ·rfl⟩
theorem qX {p:Nat->Bool} {m:Nat} (h:p m=false):∃ k≤m,p k=false/\∀ j<k,p j=true:=Ks m ⟨m,Nat.le_refl _,h⟩
theorem qY {W:Int} (b:0<=W) (c:W<=126) (n:Int):∃ u d,Ups W n u d:=by
 obtain⟨r,o,l,a⟩:=Nh b c;obtain⟨u,k,e,h⟩:=qX (p:=fun j=>eE W (n+(j:Nat))) (m:=((r - n) % 7).toNat) (by
  show eE W (n+_)=false
  rw [<- a];unfold eE;rw [show (n+((((r - n) % 7).toNat:Nat):Int)) % 7=r % 7 by omega])
 obtain⟨d,i,g,f⟩:=qX (p:=fun j=>eE W (n - (j:Nat))) (m:=((n - r) % 7).toNat) (by
  show eE W (n - _)=false
  rw [<- a];unfold eE;rw [show (n - ((((n - r) % 7).toNat:Nat):Int)) % 7=r % 7 by omega])
 exact⟨u,d,by omega,by omega,e,g,h,f⟩
def cQ (W n mv:Int) (u d:Nat):Int:=if mv=0\/eE W n=false then n else if mv=2/\(d:Int)<u then n - d else n+u
def FM (y m w k:Int):Int:=
 let n:=aX y m 1+(w - aX y m 1) % 7+7*(k - 1)
 if k=5/\aX y m 1+cI y m<=n then n - 7 else n
end Go.Proofs.YtfdddijdjpijbaaGreat
