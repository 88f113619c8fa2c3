/-  -/
import Derived.Test.YtjjlnmihkadlmaaGreatHaw
import Derived.Test.YtjjlnmihkadlmaaGreatHao
import Derived.Test.YtjjlnmihkadlmaaGreatHam
namespace Go.Proofs.YtjjlnmihkadlmaaGreat
open Go.RowKit

def slB (a b:Nat):Nat:=if (ltB 0 (a:Nat)&&ltB 0 (b:Nat))||(ltB (a:Nat) 0&&ltB (b:Nat) 0) then cR 4611686018427387904 (iF (cR 4607182418800017408 a) (cR 4607182418800017408 b)) else 0
def eS (xs:List Int) (ys:List Nat):Nat→List Nat
 | 0=>[bF xs ys 0]
 | k+1=>eS xs ys k++[slB (bF xs ys k) (bF xs ys (k+1))]
def dB (xs:List Int) (ys:List Nat) (n:Nat):List Nat:=if n=1 then [0] else eS xs ys (n - 2)++[bF xs ys (n - 2)]
theorem gR (xs:List Int) (ys:List Nat):∀ k,(eS xs ys k).length=k+1
 | 0=>rfl
 | k+1=>by show (eS xs ys k++[_]).length=_;rw [List.length_append,gR xs ys k];rfl
theorem lX (xs:List Int) (ys:List Nat) (k:Nat):eS xs ys (k+1)=eS xs ys k++[slB (bF xs ys k) (bF xs ys (k+1))]:=rfl
inductive SlO (a b:Nat):Nat→Prop
 | up (h1:ltB 0 (a:Nat)=true) (h2:ltB 0 (b:Nat)=true):SlO a b (cR 4611686018427387904 (iF (cR 4607182418800017408 a) (cR 4607182418800017408 b)))
 | down1 (h1:ltB 0 (a:Nat)=false) (h3:ltB (a:Nat) 0=true) (h4:ltB (b:Nat) 0=true):SlO a b (cR 4611686018427387904 (iF (cR 4607182418800017408 a) (cR 4607182418800017408 b)))
 | flat1 (h1:ltB 0 (a:Nat)=false) (h3:ltB (a:Nat) 0=true) (h4:ltB (b:Nat) 0=false):SlO a b 0
 | flat2 (h1:ltB 0 (a:Nat)=false) (h3:ltB (a:Nat) 0=false):SlO a b 0
 | flat3 (h1:ltB 0 (a:Nat)=true) (h2:ltB 0 (b:Nat)=false) (h3:ltB (a:Nat) 0=false):SlO a b 0
theorem BC {u v:Int} (h:ltB u v=true):ltB v u=false:=by
 unfold ltB at h ⊢
 simp only [Bool.and_eq_true,Bool.not_eq_true',decide_eq_true_eq] at h
 rw [h.1.1,h.1.2]
 simp
 omega
theorem FX (a b:Nat):SlO a b (slB a b):=by
 unfold slB
 cases h1:ltB 0 (a:Nat)
 ·cases h3:ltB (a:Nat) 0
  ·simp;exact .flat2 h1 h3
  ·cases h4:ltB (b:Nat) 0
   ·simp;exact .flat1 h1 h3 h4
   ·simp;exact .down1 h1 h3 h4
 ·have h3:=BC h1
  cases h2:ltB 0 (b:Nat)
  ·rw [h3];simp;exact .flat3 h1 h2 h3
  ·simp;exact .up h1 h2
end Go.Proofs.YtjjlnmihkadlmaaGreat
namespace Go.Proofs.YtjjlnmihkadlmaaGreat
open Go.RowKit

def heldN (v a b:Nat):Nat:=(dC (v:Nat) (a:Nat) (b:Nat)).toNat
theorem fK {v a b:Nat} (hv:v<18446744073709551616) (ha:a<18446744073709551616) (hb:b<18446744073709551616):((heldN v a b:Nat):Int)=dC (v:Nat) (a:Nat) (b:Nat):=by
 have:=(ss (bB hv) (bB ha) (bB hb)).1
 unfold heldN;omega
theorem lY {v a b:Nat} (hv:v<18446744073709551616) (ha:a<18446744073709551616) (hb:b<18446744073709551616):heldN v a b<18446744073709551616:=by
 have:=ss (bB hv) (bB ha) (bB hb)
 have e:=fK hv ha hb
 have:=this.2
 omega
def ptP (h d a b:Nat):Nat:=heldN (iF a (cR (nL d h) (fi 3))) a b
def ptQ (h d b p:Nat):Nat:=heldN (lW b (cR (nL d h) (fi 3))) p b
def ptL (xs:List Int) (ys:List Nat) (k:Nat):List Nat:=
 [ys.getD k 0,ptP (fi (xs.getD (k+1) 0 - xs.getD k 0)) ((dB xs ys xs.length).getD k 0) (ys.getD k 0) (ys.getD (k+1) 0),ptQ (fi (xs.getD (k+1) 0 - xs.getD k 0)) ((dB xs ys xs.length).getD (k+1) 0) (ys.getD (k+1) 0) (ptP (fi (xs.getD (k+1) 0 - xs.getD k 0)) ((dB xs ys xs.length).getD k 0) (ys.getD k 0) (ys.getD (k+1) 0)),ys.getD (k+1) 0]
end Go.Proofs.YtjjlnmihkadlmaaGreat
