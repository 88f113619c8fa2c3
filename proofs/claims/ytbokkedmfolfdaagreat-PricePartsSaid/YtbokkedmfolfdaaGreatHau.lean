/-  -/
import Derived.Test.YtbokkedmfolfdaaGreatHar
import Derived.Test.YtbokkedmfolfdaaGreatHam
import Derived.Test.YtbokkedmfolfdaaGreatHak
namespace Go.Proofs.YtbokkedmfolfdaaGreat
open Go.RowKit

def slB (a b:Nat):Nat:=if (ltB 0 (a:Nat)&&ltB 0 (b:Nat))||(ltB (a:Nat) 0&&ltB (b:Nat) 0) then bJ 4611686018427387904 (dZ (bJ 4607182418800017408 a) (bJ 4607182418800017408 b)) else 0
def cK (xs:List Int) (ys:List Nat):Nat→List Nat
 | 0=>[aL xs ys 0]
 | k+1=>cK xs ys k++[slB (aL xs ys k) (aL xs ys (k+1))]
def bT (xs:List Int) (ys:List Nat) (n:Nat):List Nat:=if n=1 then [0] else cK xs ys (n - 2)++[aL xs ys (n - 2)]
theorem dJ (xs:List Int) (ys:List Nat):∀ k,(cK xs ys k).length=k+1
 | 0=>rfl
 | k+1=>by show (cK xs ys k++[_]).length=_;rw [List.length_append,dJ xs ys k];rfl
theorem ie (xs:List Int) (ys:List Nat) (k:Nat):cK xs ys (k+1)=cK xs ys k++[slB (aL xs ys k) (aL xs ys (k+1))]:=rfl
inductive SlO (a b:Nat):Nat→Prop
 | up (h1:ltB 0 (a:Nat)=true) (h2:ltB 0 (b:Nat)=true):SlO a b (bJ 4611686018427387904 (dZ (bJ 4607182418800017408 a) (bJ 4607182418800017408 b)))
 | down1 (h1:ltB 0 (a:Nat)=false) (h3:ltB (a:Nat) 0=true) (h4:ltB (b:Nat) 0=true):SlO a b (bJ 4611686018427387904 (dZ (bJ 4607182418800017408 a) (bJ 4607182418800017408 b)))
 | flat1 (h1:ltB 0 (a:Nat)=false) (h3:ltB (a:Nat) 0=true) (h4:ltB (b:Nat) 0=false):SlO a b 0
 | flat2 (h1:ltB 0 (a:Nat)=false) (h3:ltB (a:Nat) 0=false):SlO a b 0
 | flat3 (h1:ltB 0 (a:Nat)=true) (h2:ltB 0 (b:Nat)=false) (h3:ltB (a:Nat) 0=false):SlO a b 0
theorem td {u v:Int} (h:ltB u v=true):ltB v u=false:=by
 unfold ltB at h ⊢
 simp only [Bool.and_eq_true,Bool.not_eq_true',decide_eq_true_eq] at h
 rw [h.1.1,h.1.2]
 simp
 omega
theorem xA (a b:Nat):SlO a b (slB a b):=by
 unfold slB
 cases h1:ltB 0 (a:Nat)
 ·cases h3:ltB (a:Nat) 0
  ·simp;exact .flat2 h1 h3
  ·cases h4:ltB (b:Nat) 0
   ·simp;exact .flat1 h1 h3 h4
   ·simp;exact .down1 h1 h3 h4
 ·have h3:=td h1
  cases h2:ltB 0 (b:Nat)
  ·rw [h3];simp;exact .flat3 h1 h2 h3
  ·simp;exact .up h1 h2
end Go.Proofs.YtbokkedmfolfdaaGreat
namespace Go.Proofs.YtbokkedmfolfdaaGreat
open Go.RowKit

def heldN (v a b:Nat):Nat:=(bU (v:Nat) (a:Nat) (b:Nat)).toNat
theorem cZ {v a b:Nat} (hv:v<18446744073709551616) (ha:a<18446744073709551616) (hb:b<18446744073709551616):((heldN v a b:Nat):Int)=bU (v:Nat) (a:Nat) (b:Nat):=by
 have:=(lM (aJ hv) (aJ ha) (aJ hb)).1
 unfold heldN;omega
theorem ig {v a b:Nat} (hv:v<18446744073709551616) (ha:a<18446744073709551616) (hb:b<18446744073709551616):heldN v a b<18446744073709551616:=by
 have:=lM (aJ hv) (aJ ha) (aJ hb)
 have e:=cZ hv ha hb
 have:=this.2
 omega
def ptP (h d a b:Nat):Nat:=heldN (dZ a (bJ (jp d h) (fi 3))) a b
def ptQ (h d b p:Nat):Nat:=heldN (id b (bJ (jp d h) (fi 3))) p b
def ptL (xs:List Int) (ys:List Nat) (k:Nat):List Nat:=
 [ys.getD k 0,ptP (fi (xs.getD (k+1) 0 - xs.getD k 0)) ((bT xs ys xs.length).getD k 0) (ys.getD k 0) (ys.getD (k+1) 0),ptQ (fi (xs.getD (k+1) 0 - xs.getD k 0)) ((bT xs ys xs.length).getD (k+1) 0) (ys.getD (k+1) 0) (ptP (fi (xs.getD (k+1) 0 - xs.getD k 0)) ((bT xs ys xs.length).getD k 0) (ys.getD k 0) (ys.getD (k+1) 0)),ys.getD (k+1) 0]
end Go.Proofs.YtbokkedmfolfdaaGreat
