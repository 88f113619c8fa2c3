/-  -/
import Derived.Below
namespace Go.Proofs.YtfdddijdjpijbaaGreat
open Go.RowKit
def leapB (y:Int):Bool:=(y.tmod 4==0)&&(y.tmod 100 !=0)||(y.tmod 400==0)
def lpI (y:Int):Int:=if leapB y then 1 else 0
def cK (y m:Int):Int:=if m=2 then 28+lpI y else if m=4\/m=6\/m=9\/m=11 then 30 else 31
def oH (y:Int):Int:=y / 4 - y / 100+y / 400
def nyI (y:Int):Int:=365*(y - 1900)+oH (y - 1) - 460
def cI (y m:Int):Int:=(367*m - 362) / 12 - (if m<=2 then 0 else 2 - lpI y)
def okD (y m d:Int):Prop:=1900<=y/\y<=2199/\1<=m/\m<=12/\1<=d/\d<=cK y m
def aW (y m d:Int):Int:=nyI y+cI y m+d - 1
def IsD (n y m d:Int):Prop:=okD y m d/\n=aW y m d
theorem lp_cases (y:Int):lpI y=0\/lpI y=1:=by
 unfold lpI;cases leapB y
 ·exact Or.inl rfl
 ·exact Or.inr rfl
theorem KS (y:Int):0<=lpI y:=by rcases lp_cases y with e | e<;>omega
theorem DY (y:Int):lpI y<=1:=by rcases lp_cases y with e | e<;>omega
theorem jA (y m:Int):28<=cK y m:=by
 have:=KS y;unfold cK
 split
 ·omega
 ·split<;>omega
theorem jB (y m:Int):cK y m<=31:=by
 have:=DY y;unfold cK
 split
 ·omega
 ·split<;>omega
theorem KT {y:Int} (h:0<=y):leapB y=true↔(y % 4=0/\y % 100≠0\/y % 400=0):=by
 unfold leapB;rw [Int.tmod_eq_emod_of_nonneg h,Int.tmod_eq_emod_of_nonneg h,Int.tmod_eq_emod_of_nonneg h];simp
theorem Qd {y:Int} (h:0<=y):(lpI y=1/\(y % 4=0/\y % 100≠0\/y % 400=0))\/(lpI y=0/\¬ (y % 4=0/\y % 100≠0\/y % 400=0)):=by
 have e:=KT h;unfold lpI;cases a:leapB y
 ·rw [a] at e
  exact Or.inr ⟨rfl,fun h=>Bool.noConfusion (e.2 h)⟩
 ·exact Or.inl ⟨rfl,e.1 a⟩
theorem mh {y:Int} (h:1900<=y):nyI (y+1)=nyI y+365+lpI y:=by
 have:=Qd (y:=y) (by omega)
 unfold nyI oH;omega
theorem ro:nyI 1900=0:=by decide
theorem wM:nyI 2200=109573:=by decide
theorem eY {y z:Int} (_h:1900<=y) (a:y<=z):nyI y<=nyI z:=by
 unfold nyI oH;omega
theorem nY {y:Int} (h:1900<=y):365*(y - 1900)<=nyI y:=by unfold nyI oH;omega
theorem nZ {y:Int} (h:1900<=y):nyI y<=366*(y - 1900):=by unfold nyI oH;omega
theorem month_cases {m:Int} (h:1<=m) (a:m<=12):m=1\/m=2\/m=3\/m=4\/m=5\/m=6\/m=7\/m=8\/m=9\/m=10\/m=11\/m=12:=by omega
theorem fy (y:Int):cI y 1=0:=by unfold cI;rw [if_pos (by decide)];decide
theorem ia {y m:Int} (h:1<=m) (b:m<=12):cI y (m+1)=cI y m+cK y m:=by
 have a:=lp_cases y;unfold cI cK;generalize lpI y=l at *
 rcases month_cases h b with rfl | rfl | rfl | rfl | rfl | rfl | rfl | rfl | rfl | rfl | rfl | rfl<;>rcases a with rfl | rfl<;>decide
theorem mj (y:Int):cI y 13=365+lpI y:=by
 unfold cI;rw [if_neg (by decide)]
 rw [show ((367*13 - 362) / 12:Int)=367 by decide];omega
theorem ic {y m k:Int} (h:1<=m) (b:m<=k) (c:k<=13):cI y m<=cI y k:=by
 have a:=KS y;have d:=DY y;unfold cI
 split<;>split<;>omega
theorem Ch {y m:Int} (h:1<=m) (a:m<=13):0<=cI y m:=by
 rw [<- fy y];exact ic (by omega) h a
theorem KU {y m:Int} (h:1<=m) (a:m<=13):cI y m<=366:=by
 have:=ic (y:=y) h a (by omega)
 rw [mj] at this
 have:=DY y;omega
theorem IsD.year {n y m d:Int} (h:IsD n y m d):nyI y<=n/\n<nyI (y+1):=by
 obtain⟨⟨f,g,c,e,i,j⟩,rfl⟩:=h;have a:=Ch (y:=y) c (by omega)
 have b:=ic (y:=y) (m:=m+1) (k:=13) (by omega) (by omega) (by omega)
 rw [mj,ia c e] at b
 rw [mh f];unfold aW;omega
theorem IsD.range {n y m d:Int} (h:IsD n y m d):0<=n/\n<=109572:=by
 have:=h.year;obtain⟨⟨c,g,f,e,i,j⟩,rfl⟩:=h;have a:=eY (y:=1900) (z:=y) (by omega) c
 have b:=eY (y:=y+1) (z:=2200) (by omega) (by omega)
 rw [ro] at a
 rw [wM] at b
 omega
theorem IsD.month {n y m d:Int} (h:IsD n y m d):cI y m<=n - nyI y/\n - nyI y<cI y (m+1):=by
 obtain⟨⟨e,c,b,a,f,g⟩,rfl⟩:=h;rw [ia b a];unfold aW;omega
theorem IsD.unique {n y m d f c d':Int} (h:IsD n y m d) (g:IsD n f c d'):y=f/\m=c/\d=d':=by
 have a:=h.year;have s:=g.year;have j:y=f:=by
  rcases Int.lt_trichotomy y f with e | e | e
  ·have:=eY (y:=y+1) (z:=f) (by have:=h.1.1;omega) (by omega)
   omega
  ·exact e
  ·have:=eY (y:=f+1) (z:=y) (by have:=g.1.1;omega) (by omega)
   omega
 subst j;have b:=h.month;have t:=g.month;have l:m=c:=by
  obtain⟨⟨_,_,q,r,_,_⟩,_⟩:=h;obtain⟨⟨_,_,o,p,_,_⟩,_⟩:=g;rcases Int.lt_trichotomy m c with e | e | e
  ·have:=ic (y:=y) (m:=m+1) (k:=c) (by omega) (by omega) (by omega)
   omega
  ·exact e
  ·have:=ic (y:=y) (m:=c+1) (k:=m) (by omega) (by omega) (by omega)
   omega
 subst l;refine⟨rfl,rfl,?_⟩
 have e:=h.2;have i:=g.2;unfold aW at e i
 omega
theorem NK (k:Nat) (n:Int) (g:0<=n) (h:n<nyI (1900+k)):∃ y,1900<=y/\y<1900+(k:Int)/\nyI y<=n/\n<nyI (y+1):=by
 induction k with
 | zero=>
  rw [show (1900+((0:Nat):Int))=1900 by rfl,ro] at h
  omega
 | succ k e=>
  by_cases f:n<nyI (1900+k)
  ·obtain⟨y,a,b,c,d⟩:=e f;exact⟨y,a,by omega,c,d⟩
  ·refine⟨1900+k,by omega,by omega,by omega,?_⟩
   rw [show (1900+(k:Int)+1)=1900+((k+1:Nat):Int) by omega]
   exact h
theorem KV (y r:Int) (k:Nat) (i:k<=12) (g:0<=r) (h:r<cI y (1+k)):∃ m,1<=m/\m<1+(k:Int)/\cI y m<=r/\r<cI y (m+1):=by
 induction k with
 | zero=>
  rw [show (1+((0:Nat):Int))=1 by rfl,fy] at h
  omega
 | succ k f=>
  by_cases e:r<cI y (1+k)
  ·obtain⟨m,a,b,c,d⟩:=f (by omega) e
   exact⟨m,a,by omega,c,d⟩
  ·refine⟨1+k,by omega,by omega,by omega,?_⟩
   rw [show (1+(k:Int)+1)=1+((k+1:Nat):Int) by omega]
   exact h
theorem iQ {n:Int} (h:0<=n) (k:n<=109572):∃ y m d,IsD n y m d:=by
 obtain⟨y,a,b,c,e⟩:=NK 300 n h (by rw [show (1900+((300:Nat):Int))=2200 by rfl,wM];omega)
 rw [mh a] at e
 obtain⟨m,f,g,i,j⟩:=KV y (n - nyI y) 12 (by omega) (by omega) (by rw [show (1+((12:Nat):Int))=13 by rfl,mj];omega)
 rw [ia f (by omega)] at j
 refine⟨y,m,n - nyI y - cI y m+1,⟨a,by omega,f,by omega,by omega,by omega⟩,?_⟩
 unfold aW;omega
theorem nu {y m d:Int} (h:okD y m d):IsD (aW y m d) y m d:=⟨h,rfl⟩
def eaG (b:Int):Int:=(b - (b+8) / 25+1) / 3
def eaH (y:Int):Int:=(19*(y % 19)+y / 100 - y / 100 / 4 - eaG (y / 100)+15) % 30
def eaL (y:Int):Int:=(32+2*(y / 100 % 4)+2*(y % 100 / 4) - eaH y - y % 100 % 4) % 7
def eaT (y:Int):Int:=eaH y+eaL y - 7*((y % 19+11*eaH y+22*eaL y) / 451)+114
def KW (y:Int):Bool:=
 decide (eaT y / 31=3\/eaT y / 31=4)&&decide (eaT y % 31+1<=cK y (eaT y / 31))&&decide ((aW y (eaT y / 31) (eaT y % 31+1)) % 7=6)&&decide (aW y 3 22<=aW y (eaT y / 31) (eaT y % 31+1))&&decide (aW y (eaT y / 31) (eaT y % 31+1)<=aW y 4 25)&&decide (eaT y<=200)&&decide (0<=eaT y)
theorem Qe:∀ i<20,∀ j<15,KW (1900+15*((i:Nat):Int)+((j:Nat):Int))=true:=by decide+kernel
structure EaOk (y:Int):Prop where
 mon:eaT y / 31=3\/eaT y / 31=4
 ok:okD y (eaT y / 31) (eaT y % 31+1)
 sun:(aW y (eaT y / 31) (eaT y % 31+1)) % 7=6
 lo:aW y 3 22<=aW y (eaT y / 31) (eaT y % 31+1)
 hi:aW y (eaT y / 31) (eaT y % 31+1)<=aW y 4 25
 small:eaT y<=200
 pos:0<=eaT y
theorem uh {y:Int} (h:1900<=y) (j:y<=2199):EaOk y:=by
 have e:=Qe ((y - 1900) / 15).toNat (by omega) ((y - 1900) % 15).toNat (by omega)
 rw [show 1900+15*((((y - 1900) / 15).toNat:Nat):Int)+((((y - 1900) % 15).toNat:Nat):Int)=y by omega] at e
 unfold KW at e
 simp only [Bool.and_eq_true,decide_eq_true_eq] at e
 obtain⟨⟨⟨⟨⟨⟨a,b⟩,c⟩,d⟩,f⟩,g⟩,i⟩:=e;refine⟨a,?_,c,d,f,g,i⟩
 unfold okD;exact⟨h,j,by omega,by omega,by omega,b⟩
structure Rul where
 (kind mon day nth wd off fr to mv:Int)
deriving DecidableEq
def eN (W n:Int):Bool:=W / ((2^(n % 7).toNat:Nat):Int) % 2==1
theorem NL {W:Int} (c:0<=W) (h:W<=126):∃ r:Int,0<=r/\r<=6/\eN W r=false:=by
 by_cases a:∀ j<7,eN W ((j:Nat):Int)=true
 ·exfalso
  have e:∀ f<127,¬ (∀ j<7,eN ((f:Nat):Int) ((j:Nat):Int)=true):=by decide+kernel
  obtain⟨w,rfl⟩:=Int.eq_ofNat_of_zero_le c;exact e w (by omega) a
 ·obtain⟨j,d⟩:=Classical.not_forall.1 a;obtain⟨g,b⟩:=Classical.not_imp.1 d;exact⟨j,by omega,by omega,by simpa using b⟩
structure Ups (W n:Int) (u d:Nat):Prop where
 ub:u<=6
 db:d<=6
 uf:eN W (n+u)=false
 df:eN W (n - d)=false
 uo:∀ j<u,eN W (n+j)=true
 dn:∀ j<d,eN W (n - j)=true
theorem KX {p:Nat->Bool} (N:Nat):(∃ i≤N,p i=false)->∃ k≤N,p k=false/\∀ j<k,p j=true:=by
 induction N with
 | zero=>
  rintro⟨i,hi,c⟩;obtain rfl:i=0:=by omega
  exact⟨0,by omega,c,fun j g=>by omega⟩
 | succ N e=>
  rintro⟨i,hi,c⟩
  by_cases f:∃ i≤N,p i=false
  ·obtain⟨k,l,a,b⟩:=e f;exact⟨k,by omega,a,b⟩
  ·obtain rfl:i=N+1:=by
    by_cases h:i<=N
    ·exact absurd ⟨i,h,c⟩ f
    ·omega
   exact⟨N+1,Nat.le_refl _,c,fun j g=>by
    cases d:p j
    ·exact absurd ⟨j,by omega,d⟩ f
    ·rfl⟩
theorem rp {p:Nat->Bool} {m:Nat} (h:p m=false):∃ k≤m,p k=false/\∀ j<k,p j=true:=KX m ⟨m,Nat.le_refl _,h⟩
theorem rq {W:Int} (c:0<=W) (h:W<=126) (n:Int):∃ u d,Ups W n u d:=by
 obtain⟨r,o,k,a⟩:=NL c h;obtain⟨u,i,f,g⟩:=rp (p:=fun j=>eN W (n+(j:Nat))) (m:=((r - n) % 7).toNat) (by
  show eN W (n+_)=false
  rw [<- a];unfold eN;rw [show (n+((((r - n) % 7).toNat:Nat):Int)) % 7=r % 7 by omega])
 obtain⟨d,l,b,e⟩:=rp (p:=fun j=>eN W (n - (j:Nat))) (m:=((n - r) % 7).toNat) (by
  show eN W (n - _)=false
  rw [<- a];unfold eN;rw [show (n - ((((n - r) % 7).toNat:Nat):Int)) % 7=r % 7 by omega])
 exact⟨u,d,by omega,by omega,f,b,g,e⟩
def cU (W n mv:Int) (u d:Nat):Int:=if mv=0\/eN W n=false then n else if mv=2/\(d:Int)<u then n - d else n+u
def Gr (y m w k:Int):Int:=
 let n:=aW y m 1+(w - aW y m 1) % 7+7*(k - 1)
 if k=5/\aW y m 1+cK y m<=n then n - 7 else n
end Go.Proofs.YtfdddijdjpijbaaGreat
