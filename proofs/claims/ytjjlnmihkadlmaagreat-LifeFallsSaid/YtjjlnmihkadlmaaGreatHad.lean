/-  -/
import Derived.Below
namespace Go.Proofs.YtjjlnmihkadlmaaGreat
open Go.RowKit

def leapB (y:Int):Bool:=(y.tmod 4==0)&&(y.tmod 100 !=0)||(y.tmod 400==0)
def lpI (y:Int):Int:=if leapB y then 1 else 0
def Ao (y m:Int):Int:=if m=2 then 28+lpI y else if m=4∨m=6∨m=9∨m=11 then 30 else 31
def Hd (y:Int):Int:=y / 4 - y / 100+y / 400
def nyI (y:Int):Int:=365*(y - 1900)+Hd (y - 1) - 460
def eY (y m:Int):Int:=(367*m - 362) / 12 - (if m≤2 then 0 else 2 - lpI y)
def okD (y m d:Int):Prop:=1900≤y∧y≤2199∧1≤m∧m≤12∧1≤d∧d≤Ao y m
def mU (y m d:Int):Int:=nyI y+eY y m+d - 1
def IsD (n y m d:Int):Prop:=okD y m d∧n=mU y m d

theorem lp_cases (y:Int):lpI y=0∨lpI y=1:=by
 unfold lpI;cases leapB y
 ·exact Or.inl rfl
 ·exact Or.inr rfl
theorem Ir (y:Int):0≤lpI y:=by rcases lp_cases y with e | e<;>omega
theorem FN (y:Int):lpI y≤1:=by rcases lp_cases y with e | e<;>omega
theorem Dz (y m:Int):Ao y m≤31:=by
 have:=FN y
 unfold Ao
 split
 ·omega
 ·split<;>omega

theorem DA {y:Int} (h:0≤y):leapB y=true↔(y % 4=0∧y % 100≠0∨y % 400=0):=by
 unfold leapB
 rw [Int.tmod_eq_emod_of_nonneg h,Int.tmod_eq_emod_of_nonneg h,Int.tmod_eq_emod_of_nonneg h]
 simp
theorem He {y:Int} (h:0≤y):(lpI y=1∧(y % 4=0∧y % 100≠0∨y % 400=0))∨(lpI y=0∧¬ (y % 4=0∧y % 100≠0∨y % 400=0)):=by
 have e:=DA h
 unfold lpI
 cases hl:leapB y
 ·rw [hl] at e
  exact Or.inr ⟨rfl,fun h=>Bool.noConfusion (e.2 h)⟩
 ·exact Or.inl ⟨rfl,e.1 hl⟩

theorem qX {y:Int} (h:1900≤y):nyI (y+1)=nyI y+365+lpI y:=by
 have:=He (y:=y) (by omega)
 unfold nyI Hd
 omega
theorem DB:nyI 1900=0:=by decide
theorem Fx:nyI 2200=109573:=by decide
theorem xQ {y z:Int} (_h:1900≤y) (hz:y≤z):nyI y≤nyI z:=by
 unfold nyI Hd;omega
theorem month_cases {m:Int} (h:1≤m) (h':m≤12):m=1∨m=2∨m=3∨m=4∨m=5∨m=6∨m=7∨m=8∨m=9∨m=10∨m=11∨m=12:=by omega
theorem oZ (y:Int):eY y 1=0:=by unfold eY;rw [if_pos (by decide)];decide
theorem mV {y m:Int} (h:1≤m) (h':m≤12):eY y (m+1)=eY y m+Ao y m:=by
 have h0:=lp_cases y
 unfold eY Ao
 generalize lpI y=l at *
 rcases month_cases h h' with rfl | rfl | rfl | rfl | rfl | rfl | rfl | rfl | rfl | rfl | rfl | rfl<;>rcases h0 with rfl | rfl<;>decide
theorem tX (y:Int):eY y 13=365+lpI y:=by
 unfold eY;rw [if_neg (by decide)]
 rw [show ((367*13 - 362) / 12:Int)=367 by decide];omega
theorem jx {y m k:Int} (h:1≤m) (hk:m≤k) (h':k≤13):eY y m≤eY y k:=by
 have h0:=Ir y
 have h1:=FN y
 unfold eY
 split<;>split<;>omega
theorem Hf {y m:Int} (h:1≤m) (h':m≤13):0≤eY y m:=by
 rw [← oZ y];exact jx (by omega) h h'
theorem IsD.year {n y m d:Int} (h:IsD n y m d):nyI y≤n∧n<nyI (y+1):=by
 obtain⟨⟨h1,h2,h3,h4,h5,h6⟩,rfl⟩:=h
 have a:=Hf (y:=y) h3 (by omega)
 have b:=jx (y:=y) (m:=m+1) (k:=13) (by omega) (by omega) (by omega)
 rw [tX,mV h3 h4] at b
 rw [qX h1]
 unfold mU
 omega
theorem IsD.month {n y m d:Int} (h:IsD n y m d):eY y m≤n - nyI y∧n - nyI y<eY y (m+1):=by
 obtain⟨⟨h1,h2,h3,h4,h5,h6⟩,rfl⟩:=h
 rw [mV h3 h4]
 unfold mU
 omega
theorem IsD.unique {n y m d y' m' d':Int} (h:IsD n y m d) (h':IsD n y' m' d'):y=y'∧m=m'∧d=d':=by
 have a:=h.year
 have a':=h'.year
 have hy:y=y':=by
  rcases Int.lt_trichotomy y y' with e | e | e
  ·have:=xQ (y:=y+1) (z:=y') (by have:=h.1.1;omega) (by omega)
   omega
  ·exact e
  ·have:=xQ (y:=y'+1) (z:=y) (by have:=h'.1.1;omega) (by omega)
   omega
 subst hy
 have b:=h.month
 have b':=h'.month
 have hm:m=m':=by
  obtain⟨⟨_,_,h3,h4,_,_⟩,_⟩:=h
  obtain⟨⟨_,_,h3',h4',_,_⟩,_⟩:=h'
  rcases Int.lt_trichotomy m m' with e | e | e
  ·have:=jx (y:=y) (m:=m+1) (k:=m') (by omega) (by omega) (by omega)
   omega
  ·exact e
  ·have:=jx (y:=y) (m:=m'+1) (k:=m) (by omega) (by omega) (by omega)
   omega
 subst hm
 refine⟨rfl,rfl,?_⟩
 have e:=h.2
 have e':=h'.2
 unfold mU at e e'
 omega

theorem Fy (k:Nat) (n:Int) (h0:0≤n) (h:n<nyI (1900+k)):∃ y,1900≤y∧y<1900+(k:Int)∧nyI y≤n∧n<nyI (y+1):=by
 induction k with
 | zero=>
  rw [show (1900+((0:Nat):Int))=1900 by rfl,DB] at h
  omega
 | succ k ih=>
  by_cases hk:n<nyI (1900+k)
  ·obtain⟨y,a,b,c,d⟩:=ih hk
   exact⟨y,a,by omega,c,d⟩
  ·refine⟨1900+k,by omega,by omega,by omega,?_⟩
   rw [show (1900+(k:Int)+1)=1900+((k+1:Nat):Int) by omega]
   exact h
theorem DC (y r:Int) (k:Nat) (hk:k≤12) (h0:0≤r) (h:r<eY y (1+k)):∃ m,1≤m∧m<1+(k:Int)∧eY y m≤r∧r<eY y (m+1):=by
 induction k with
 | zero=>
  rw [show (1+((0:Nat):Int))=1 by rfl,oZ] at h
  omega
 | succ k ih=>
  by_cases hk':r<eY y (1+k)
  ·obtain⟨m,a,b,c,d⟩:=ih (by omega) hk'
   exact⟨m,a,by omega,c,d⟩
  ·refine⟨1+k,by omega,by omega,by omega,?_⟩
   rw [show (1+(k:Int)+1)=1+((k+1:Nat):Int) by omega]
   exact h
theorem DD {n:Int} (h0:0≤n) (h1:n≤109572):∃ y m d,IsD n y m d:=by
 obtain⟨y,a,b,c,e⟩:=Fy 300 n h0 (by rw [show (1900+((300:Nat):Int))=2200 by rfl,Fx];omega)
 rw [qX a] at e
 obtain⟨m,f,g,i,j⟩:=DC y (n - nyI y) 12 (by omega) (by omega) (by rw [show (1+((12:Nat):Int))=13 by rfl,tX];omega)
 rw [mV f (by omega)] at j
 refine⟨y,m,n - nyI y - eY y m+1,⟨a,by omega,f,by omega,by omega,by omega⟩,?_⟩
 unfold mU
 omega
end Go.Proofs.YtjjlnmihkadlmaaGreat
namespace Go.Proofs.YtjjlnmihkadlmaaGreat
open Go.RowKit

def eaG (b:Int):Int:=(b - (b+8) / 25+1) / 3
def eaH (y:Int):Int:=(19*(y % 19)+y / 100 - y / 100 / 4 - eaG (y / 100)+15) % 30
def eaL (y:Int):Int:=(32+2*(y / 100 % 4)+2*(y % 100 / 4) - eaH y - y % 100 % 4) % 7
def eaT (y:Int):Int:=eaH y+eaL y - 7*((y % 19+11*eaH y+22*eaL y) / 451)+114
end Go.Proofs.YtjjlnmihkadlmaaGreat
namespace Go.Proofs.YtjjlnmihkadlmaaGreat
open Go.RowKit

structure Rul where
 (kind mon day nth wd off fr to mv:Int)
deriving DecidableEq

def Ap (W n:Int):Bool:=W / ((2^(n % 7).toNat:Nat):Int) % 2==1
structure Ups (W n:Int) (u d:Nat):Prop where
 ub:u≤6
 db:d≤6
 uf:Ap W (n+u)=false
 df:Ap W (n - d)=false
 uo:∀ j<u,Ap W (n+j)=true
 dn:∀ j<d,Ap W (n - j)=true
def IA (W n mv:Int) (u d:Nat):Int:=if mv=0∨Ap W n=false then n else if mv=2∧(d:Int)<u then n - d else n+u
def IB (y m w k:Int):Int:=
 let n:=mU y m 1+(w - mU y m 1) % 7+7*(k - 1)
 if k=5∧mU y m 1+Ao y m≤n then n - 7 else n
end Go.Proofs.YtjjlnmihkadlmaaGreat
