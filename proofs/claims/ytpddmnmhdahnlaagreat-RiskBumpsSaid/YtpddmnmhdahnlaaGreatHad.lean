/-  -/
import Derived.Below
namespace Go.Proofs.YtpddmnmhdahnlaaGreat
open Go.RowKit

def leapB (y:Int):Bool:=(y.tmod 4==0)&&(y.tmod 100 !=0)||(y.tmod 400==0)
def lpI (y:Int):Int:=if leapB y then 1 else 0
def ce (y m:Int):Int:=if m=2 then 28+lpI y else if m=4∨m=6∨m=9∨m=11 then 30 else 31
def mz (y:Int):Int:=y / 4 - y / 100+y / 400
def nyI (y:Int):Int:=365*(y - 1900)+mz (y - 1) - 460
def bZ (y m:Int):Int:=(367*m - 362) / 12 - (if m≤2 then 0 else 2 - lpI y)
def okD (y m d:Int):Prop:=1900≤y∧y≤2199∧1≤m∧m≤12∧1≤d∧d≤ce y m
def aL (y m d:Int):Int:=nyI y+bZ y m+d - 1
def IsD (n y m d:Int):Prop:=okD y m d∧n=aL y m d

theorem lp_cases (y:Int):lpI y=0∨lpI y=1:=by
 unfold lpI;cases leapB y
 ·exact Or.inl rfl
 ·exact Or.inr rfl
theorem Gn (y:Int):0≤lpI y:=by rcases lp_cases y with e | e<;>omega
theorem AE (y:Int):lpI y≤1:=by rcases lp_cases y with e | e<;>omega
theorem im (y m:Int):28≤ce y m:=by
 have:=Gn y
 unfold ce
 split
 ·omega
 ·split<;>omega
theorem io (y m:Int):ce y m≤31:=by
 have:=AE y
 unfold ce
 split
 ·omega
 ·split<;>omega

theorem Gp {y:Int} (h:0≤y):leapB y=true↔(y % 4=0∧y % 100≠0∨y % 400=0):=by
 unfold leapB
 rw [Int.tmod_eq_emod_of_nonneg h,Int.tmod_eq_emod_of_nonneg h,Int.tmod_eq_emod_of_nonneg h]
 simp
theorem LF {y:Int} (h:0≤y):(lpI y=1∧(y % 4=0∧y % 100≠0∨y % 400=0))∨(lpI y=0∧¬ (y % 4=0∧y % 100≠0∨y % 400=0)):=by
 have e:=Gp h
 unfold lpI
 cases hl:leapB y
 ·rw [hl] at e
  exact Or.inr ⟨rfl,fun h=>Bool.noConfusion (e.2 h)⟩
 ·exact Or.inl ⟨rfl,e.1 hl⟩

theorem kt {y:Int} (h:1900≤y):nyI (y+1)=nyI y+365+lpI y:=by
 have:=LF (y:=y) (by omega)
 unfold nyI mz
 omega
theorem oW:nyI 1900=0:=by decide
theorem tw:nyI 2200=109573:=by decide
theorem dI {y z:Int} (_h:1900≤y) (hz:y≤z):nyI y≤nyI z:=by
 unfold nyI mz;omega
theorem lX {y:Int} (h:1900≤y):365*(y - 1900)≤nyI y:=by unfold nyI mz;omega
theorem lY {y:Int} (h:1900≤y):nyI y≤366*(y - 1900):=by unfold nyI mz;omega

theorem month_cases {m:Int} (h:1≤m) (h':m≤12):m=1∨m=2∨m=3∨m=4∨m=5∨m=6∨m=7∨m=8∨m=9∨m=10∨m=11∨m=12:=by omega
theorem dP (y:Int):bZ y 1=0:=by unfold bZ;rw [if_pos (by decide)];decide
theorem fJ {y m:Int} (h:1≤m) (h':m≤12):bZ y (m+1)=bZ y m+ce y m:=by
 have h0:=lp_cases y
 unfold bZ ce
 generalize lpI y=l at *
 rcases month_cases h h' with rfl | rfl | rfl | rfl | rfl | rfl | rfl | rfl | rfl | rfl | rfl | rfl<;>rcases h0 with rfl | rfl<;>decide
theorem ku (y:Int):bZ y 13=365+lpI y:=by
 unfold bZ;rw [if_neg (by decide)]
 rw [show ((367*13 - 362) / 12:Int)=367 by decide];omega
theorem fK {y m k:Int} (h:1≤m) (hk:m≤k) (h':k≤13):bZ y m≤bZ y k:=by
 have h0:=Gn y
 have h1:=AE y
 unfold bZ
 split<;>split<;>omega
theorem yO {y m:Int} (h:1≤m) (h':m≤13):0≤bZ y m:=by
 rw [← dP y];exact fK (by omega) h h'
theorem Gq {y m:Int} (h:1≤m) (h':m≤13):bZ y m≤366:=by
 have:=fK (y:=y) h h' (by omega)
 rw [ku] at this
 have:=AE y
 omega

theorem IsD.year {n y m d:Int} (h:IsD n y m d):nyI y≤n∧n<nyI (y+1):=by
 obtain⟨⟨h1,h2,h3,h4,h5,h6⟩,rfl⟩:=h
 have a:=yO (y:=y) h3 (by omega)
 have b:=fK (y:=y) (m:=m+1) (k:=13) (by omega) (by omega) (by omega)
 rw [ku,fJ h3 h4] at b
 rw [kt h1]
 unfold aL
 omega
theorem IsD.range {n y m d:Int} (h:IsD n y m d):0≤n∧n≤109572:=by
 have:=h.year
 obtain⟨⟨h1,h2,h3,h4,h5,h6⟩,rfl⟩:=h
 have a:=dI (y:=1900) (z:=y) (by omega) h1
 have b:=dI (y:=y+1) (z:=2200) (by omega) (by omega)
 rw [oW] at a
 rw [tw] at b
 omega
theorem IsD.month {n y m d:Int} (h:IsD n y m d):bZ y m≤n - nyI y∧n - nyI y<bZ y (m+1):=by
 obtain⟨⟨h1,h2,h3,h4,h5,h6⟩,rfl⟩:=h
 rw [fJ h3 h4]
 unfold aL
 omega
theorem IsD.unique {n y m d y' m' d':Int} (h:IsD n y m d) (h':IsD n y' m' d'):y=y'∧m=m'∧d=d':=by
 have a:=h.year
 have a':=h'.year
 have hy:y=y':=by
  rcases Int.lt_trichotomy y y' with e | e | e
  ·have:=dI (y:=y+1) (z:=y') (by have:=h.1.1;omega) (by omega)
   omega
  ·exact e
  ·have:=dI (y:=y'+1) (z:=y) (by have:=h'.1.1;omega) (by omega)
   omega
 subst hy
 have b:=h.month
 have b':=h'.month
 have hm:m=m':=by
  obtain⟨⟨_,_,h3,h4,_,_⟩,_⟩:=h
  obtain⟨⟨_,_,h3',h4',_,_⟩,_⟩:=h'
  rcases Int.lt_trichotomy m m' with e | e | e
  ·have:=fK (y:=y) (m:=m+1) (k:=m') (by omega) (by omega) (by omega)
   omega
  ·exact e
  ·have:=fK (y:=y) (m:=m'+1) (k:=m) (by omega) (by omega) (by omega)
   omega
 subst hm
 refine⟨rfl,rfl,?_⟩
 have e:=h.2
 have e':=h'.2
 unfold aL at e e'
 omega

theorem JE (k:Nat) (n:Int) (h0:0≤n) (h:n<nyI (1900+k)):∃ y,1900≤y∧y<1900+(k:Int)∧nyI y≤n∧n<nyI (y+1):=by
 induction k with
 | zero=>
  rw [show (1900+((0:Nat):Int))=1900 by rfl,oW] at h
  omega
 | succ k ih=>
  by_cases hk:n<nyI (1900+k)
  ·obtain⟨y,a,b,c,d⟩:=ih hk
   exact⟨y,a,by omega,c,d⟩
  ·refine⟨1900+k,by omega,by omega,by omega,?_⟩
   rw [show (1900+(k:Int)+1)=1900+((k+1:Nat):Int) by omega]
   exact h
theorem Gr (y r:Int) (k:Nat) (hk:k≤12) (h0:0≤r) (h:r<bZ y (1+k)):∃ m,1≤m∧m<1+(k:Int)∧bZ y m≤r∧r<bZ y (m+1):=by
 induction k with
 | zero=>
  rw [show (1+((0:Nat):Int))=1 by rfl,dP] at h
  omega
 | succ k ih=>
  by_cases hk':r<bZ y (1+k)
  ·obtain⟨m,a,b,c,d⟩:=ih (by omega) hk'
   exact⟨m,a,by omega,c,d⟩
  ·refine⟨1+k,by omega,by omega,by omega,?_⟩
   rw [show (1+(k:Int)+1)=1+((k+1:Nat):Int) by omega]
   exact h
theorem gJ {n:Int} (h0:0≤n) (h1:n≤109572):∃ y m d,IsD n y m d:=by
 obtain⟨y,a,b,c,e⟩:=JE 300 n h0 (by rw [show (1900+((300:Nat):Int))=2200 by rfl,tw];omega)
 rw [kt a] at e
 obtain⟨m,f,g,i,j⟩:=Gr y (n - nyI y) 12 (by omega) (by omega) (by rw [show (1+((12:Nat):Int))=13 by rfl,ku];omega)
 rw [fJ f (by omega)] at j
 refine⟨y,m,n - nyI y - bZ y m+1,⟨a,by omega,f,by omega,by omega,by omega⟩,?_⟩
 unfold aL
 omega
theorem lp {y m d:Int} (h:okD y m d):IsD (aL y m d) y m d:=⟨h,rfl⟩
end Go.Proofs.YtpddmnmhdahnlaaGreat
namespace Go.Proofs.YtpddmnmhdahnlaaGreat
open Go.RowKit

def eaG (b:Int):Int:=(b - (b+8) / 25+1) / 3
def eaH (y:Int):Int:=(19*(y % 19)+y / 100 - y / 100 / 4 - eaG (y / 100)+15) % 30
def eaL (y:Int):Int:=(32+2*(y / 100 % 4)+2*(y % 100 / 4) - eaH y - y % 100 % 4) % 7
def eaT (y:Int):Int:=eaH y+eaL y - 7*((y % 19+11*eaH y+22*eaL y) / 451)+114
def Gs (y:Int):Bool:=
 decide (eaT y / 31=3∨eaT y / 31=4)&&decide (eaT y % 31+1≤ce y (eaT y / 31))&&decide ((aL y (eaT y / 31) (eaT y % 31+1)) % 7=6)&&decide (aL y 3 22≤aL y (eaT y / 31) (eaT y % 31+1))&&decide (aL y (eaT y / 31) (eaT y % 31+1)≤aL y 4 25)&&decide (eaT y≤200)&&decide (0≤eaT y)
theorem LG:∀ i<20,∀ j<15,Gs (1900+15*((i:Nat):Int)+((j:Nat):Int))=true:=by decide+kernel
structure EaOk (y:Int):Prop where
 mon:eaT y / 31=3∨eaT y / 31=4
 ok:okD y (eaT y / 31) (eaT y % 31+1)
 sun:(aL y (eaT y / 31) (eaT y % 31+1)) % 7=6
 lo:aL y 3 22≤aL y (eaT y / 31) (eaT y % 31+1)
 hi:aL y (eaT y / 31) (eaT y % 31+1)≤aL y 4 25
 small:eaT y≤200
 pos:0≤eaT y
theorem rO {y:Int} (h:1900≤y) (h':y≤2199):EaOk y:=by
 have e:=LG ((y - 1900) / 15).toNat (by omega) ((y - 1900) % 15).toNat (by omega)
 rw [show 1900+15*((((y - 1900) / 15).toNat:Nat):Int)+((((y - 1900) % 15).toNat:Nat):Int)=y by omega] at e
 unfold Gs at e
 simp only [Bool.and_eq_true,decide_eq_true_eq] at e
 obtain⟨⟨⟨⟨⟨⟨a,b⟩,c⟩,d⟩,f⟩,g⟩,i⟩:=e
 refine⟨a,?_,c,d,f,g,i⟩
 unfold okD
 exact⟨h,h',by omega,by omega,by omega,b⟩
end Go.Proofs.YtpddmnmhdahnlaaGreat
namespace Go.Proofs.YtpddmnmhdahnlaaGreat
open Go.RowKit

structure Rul where
 (kind mon day nth wd off fr to mv:Int)
deriving DecidableEq

def dB (W n:Int):Bool:=W / ((2^(n % 7).toNat:Nat):Int) % 2==1
theorem JF {W:Int} (h0:0≤W) (h1:W≤126):∃ r:Int,0≤r∧r≤6∧dB W r=false:=by
 by_cases a:∀ j<7,dB W ((j:Nat):Int)=true
 ·exfalso
  have e:∀ W'<127,¬ (∀ j<7,dB ((W':Nat):Int) ((j:Nat):Int)=true):=by decide+kernel
  obtain⟨w,rfl⟩:=Int.eq_ofNat_of_zero_le h0
  exact e w (by omega) a
 ·obtain⟨j,hj⟩:=Classical.not_forall.1 a
  obtain⟨hj1,hj2⟩:=Classical.not_imp.1 hj
  exact⟨j,by omega,by omega,by simpa using hj2⟩
structure Ups (W n:Int) (u d:Nat):Prop where
 ub:u≤6
 db:d≤6
 uf:dB W (n+u)=false
 df:dB W (n - d)=false
 uo:∀ j<u,dB W (n+j)=true
 dn:∀ j<d,dB W (n - j)=true
theorem Gt {p:Nat→Bool} (N:Nat):(∃ i≤N,p i=false)→∃ k≤N,p k=false∧∀ j<k,p j=true:=by
 induction N with
 | zero=>
  rintro⟨i,hi,hpi⟩
  obtain rfl:i=0:=by omega
  exact⟨0,by omega,hpi,fun j hj=>by omega⟩
 | succ N ihN=>
  rintro⟨i,hi,hpi⟩
  by_cases h2:∃ i≤N,p i=false
  ·obtain⟨k,hk,a,b⟩:=ihN h2
   exact⟨k,by omega,a,b⟩
  ·obtain rfl:i=N+1:=by
    by_cases h3:i≤N
    ·exact absurd ⟨i,h3,hpi⟩ h2
    ·omega
   exact⟨N+1,Nat.le_refl _,hpi,fun j hj=>by
    cases hpj:p j
    ·exact absurd ⟨j,by omega,hpj⟩ h2
    ·rfl⟩
theorem oX {p:Nat→Bool} {m:Nat} (h:p m=false):∃ k≤m,p k=false∧∀ j<k,p j=true:=Gt m ⟨m,Nat.le_refl _,h⟩
theorem oY {W:Int} (h0:0≤W) (h1:W≤126) (n:Int):∃ u d,Ups W n u d:=by
 obtain⟨r,r0,r1,hr⟩:=JF h0 h1
 obtain⟨u,hu,uf,uo⟩:=oX (p:=fun j=>dB W (n+(j:Nat))) (m:=((r - n) % 7).toNat) (by
  show dB W (n+_)=false
  rw [← hr]
  unfold dB
  rw [show (n+((((r - n) % 7).toNat:Nat):Int)) % 7=r % 7 by omega])
 obtain⟨d,hd,df,dn⟩:=oX (p:=fun j=>dB W (n - (j:Nat))) (m:=((n - r) % 7).toNat) (by
  show dB W (n - _)=false
  rw [← hr]
  unfold dB
  rw [show (n - ((((n - r) % 7).toNat:Nat):Int)) % 7=r % 7 by omega])
 exact⟨u,d,by omega,by omega,uf,df,uo,dn⟩
def co (W n mv:Int) (u d:Nat):Int:=if mv=0∨dB W n=false then n else if mv=2∧(d:Int)<u then n - d else n+u
def CG (y m w k:Int):Int:=
 let n:=aL y m 1+(w - aL y m 1) % 7+7*(k - 1)
 if k=5∧aL y m 1+ce y m≤n then n - 7 else n
end Go.Proofs.YtpddmnmhdahnlaaGreat
