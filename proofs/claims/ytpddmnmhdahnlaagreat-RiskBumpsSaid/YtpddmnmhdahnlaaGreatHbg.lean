/-  -/
import Derived.Test.YtpddmnmhdahnlaaGreatHbc
import Derived.Test.YtpddmnmhdahnlaaGreatHau
import Derived.Test.YtpddmnmhdahnlaaGreatHas
namespace Go.Proofs.YtpddmnmhdahnlaaGreat
open Go.RowKit

def slB (a b:Nat):Nat:=if (ltB 0 (a:Nat)&&ltB 0 (b:Nat))||(ltB (a:Nat) 0&&ltB (b:Nat) 0) then cN 4611686018427387904 (jq (cN 4607182418800017408 a) (cN 4607182418800017408 b)) else 0
def fB (xs:List Int) (ys:List Nat):Nat→List Nat
 | 0=>[bw xs ys 0]
 | k+1=>fB xs ys k++[slB (bw xs ys k) (bw xs ys (k+1))]
def dC (xs:List Int) (ys:List Nat) (n:Nat):List Nat:=if n=1 then [0] else fB xs ys (n - 2)++[bw xs ys (n - 2)]
theorem iL (xs:List Int) (ys:List Nat):∀ k,(fB xs ys k).length=k+1
 | 0=>rfl
 | k+1=>by show (fB xs ys k++[_]).length=_;rw [List.length_append,iL xs ys k];rfl
theorem nP (xs:List Int) (ys:List Nat) (k:Nat):fB xs ys (k+1)=fB xs ys k++[slB (bw xs ys k) (bw xs ys (k+1))]:=rfl
theorem TBox.stay {w wr w':World} {kind:Int} {vx vy:Value} (h:TBox w kind vx vy wr) (hb:Below (w.heap.size+1) wr w'):TBox w kind vx vy w':=
 ⟨(hb.cell (p:=⟨w.heap.size,0,none⟩) (Nat.lt_succ_self _)).trans h.t0,(hb.cell (p:=⟨w.heap.size,1,none⟩) (Nat.lt_succ_self _)).trans h.t1,(hb.cell (p:=⟨w.heap.size,2,none⟩) (Nat.lt_succ_self _)).trans h.t2,h.bl.trans (hb.mono (Nat.le_succ _)),Nat.lt_of_lt_of_le h.lt hb.size⟩
inductive SlO (a b:Nat):Nat→Prop
 | up (h1:ltB 0 (a:Nat)=true) (h2:ltB 0 (b:Nat)=true):SlO a b (cN 4611686018427387904 (jq (cN 4607182418800017408 a) (cN 4607182418800017408 b)))
 | down1 (h1:ltB 0 (a:Nat)=false) (h3:ltB (a:Nat) 0=true) (h4:ltB (b:Nat) 0=true):SlO a b (cN 4611686018427387904 (jq (cN 4607182418800017408 a) (cN 4607182418800017408 b)))
 | flat1 (h1:ltB 0 (a:Nat)=false) (h3:ltB (a:Nat) 0=true) (h4:ltB (b:Nat) 0=false):SlO a b 0
 | flat2 (h1:ltB 0 (a:Nat)=false) (h3:ltB (a:Nat) 0=false):SlO a b 0
 | flat3 (h1:ltB 0 (a:Nat)=true) (h2:ltB 0 (b:Nat)=false) (h3:ltB (a:Nat) 0=false):SlO a b 0
theorem Ek {u v:Int} (h:ltB u v=true):ltB v u=false:=by
 unfold ltB at h ⊢
 simp only [Bool.and_eq_true,Bool.not_eq_true',decide_eq_true_eq] at h
 rw [h.1.1,h.1.2]
 simp
 omega
theorem KS (a b:Nat):SlO a b (slB a b):=by
 unfold slB
 cases h1:ltB 0 (a:Nat)
 ·cases h3:ltB (a:Nat) 0
  ·simp;exact .flat2 h1 h3
  ·cases h4:ltB (b:Nat) 0
   ·simp;exact .flat1 h1 h3 h4
   ·simp;exact .down1 h1 h3 h4
 ·have h3:=Ek h1
  cases h2:ltB 0 (b:Nat)
  ·rw [h3];simp;exact .flat3 h1 h2 h3
  ·simp;exact .up h1 h2
end Go.Proofs.YtpddmnmhdahnlaaGreat
namespace Go.Proofs.YtpddmnmhdahnlaaGreat
open Go.RowKit

def heldN (v a b:Nat):Nat:=(dD (v:Nat) (a:Nat) (b:Nat)).toNat
theorem gu {v a b:Nat} (hv:v<18446744073709551616) (ha:a<18446744073709551616) (hb:b<18446744073709551616):((heldN v a b:Nat):Int)=dD (v:Nat) (a:Nat) (b:Nat):=by
 have:=(uu (bj hv) (bj ha) (bj hb)).1
 unfold heldN;omega
theorem nQ {v a b:Nat} (hv:v<18446744073709551616) (ha:a<18446744073709551616) (hb:b<18446744073709551616):heldN v a b<18446744073709551616:=by
 have:=uu (bj hv) (bj ha) (bj hb)
 have e:=gu hv ha hb
 have:=this.2
 omega
def ptP (h d a b:Nat):Nat:=heldN (jq a (cN (qg d h) (fi 3))) a b
def ptQ (h d b p:Nat):Nat:=heldN (nO b (cN (qg d h) (fi 3))) p b
structure PRd (w:World) (B:Nat) (vx vy:Value) (bx ox b2 oy bd k:Nat) (x0 x1:Int) (y0 y1 d0 d1:Nat):Prop where
 t1:w.cell? ⟨B,1,none⟩=some vx
 t2:w.cell? ⟨B,2,none⟩=some vy
 a0:w.cell? ⟨bx,ox+k,none⟩=some (.int .i64 x0)
 a1:w.cell? ⟨bx,ox+(k+1),none⟩=some (.int .i64 x1)
 b0:w.cell? ⟨b2,oy+k,none⟩=some (.int .u64 (y0:Int))
 b1:w.cell? ⟨b2,oy+(k+1),none⟩=some (.int .u64 (y1:Int))
 e0:w.cell? ⟨bd,k,none⟩=some (.int .u64 (d0:Int))
 e1:w.cell? ⟨bd,k+1,none⟩=some (.int .u64 (d1:Int))
 lB:B<w.heap.size
 lx:bx<w.heap.size
 ly:b2<w.heap.size
 ld:bd<w.heap.size
theorem PRd.step {w w':World} {B:Nat} {vx vy:Value} {bx ox b2 oy bd k:Nat} {x0 x1:Int} {y0 y1 d0 d1:Nat} (h:PRd w B vx vy bx ox b2 oy bd k x0 x1 y0 y1 d0 d1) (hb:Below w.heap.size w w'):PRd w' B vx vy bx ox b2 oy bd k x0 x1 y0 y1 d0 d1:=
 ⟨(hb.cell (p:=⟨B,1,none⟩) h.lB).trans h.t1,(hb.cell (p:=⟨B,2,none⟩) h.lB).trans h.t2,(hb.cell (p:=⟨bx,ox+k,none⟩) h.lx).trans h.a0,(hb.cell (p:=⟨bx,ox+(k+1),none⟩) h.lx).trans h.a1,(hb.cell (p:=⟨b2,oy+k,none⟩) h.ly).trans h.b0,(hb.cell (p:=⟨b2,oy+(k+1),none⟩) h.ly).trans h.b1,(hb.cell (p:=⟨bd,k,none⟩) h.ld).trans h.e0,(hb.cell (p:=⟨bd,k+1,none⟩) h.ld).trans h.e1,Nat.lt_of_lt_of_le h.lB hb.size,Nat.lt_of_lt_of_le h.lx hb.size,Nat.lt_of_lt_of_le h.ly hb.size,Nat.lt_of_lt_of_le h.ld hb.size⟩
theorem PRd.drew {w:World} {B:Nat} {vx vy:Value} {bx ox b2 oy bd k:Nat} {x0 x1:Int} {y0 y1 d0 d1:Nat} (h:PRd w B vx vy bx ox b2 oy bd k x0 x1 y0 y1 d0 d1):PRd w.drew B vx vy bx ox b2 oy bd k x0 x1 y0 y1 d0 d1:=⟨h.t1,h.t2,h.a0,h.a1,h.b0,h.b1,h.e0,h.e1,h.lB,h.lx,h.ly,h.ld⟩
theorem PRd.three {w:World} {B:Nat} {vx vy:Value} {bx ox b2 oy bd k:Nat} {x0 x1:Int} {y0 y1 d0 d1:Nat} (h:PRd w B vx vy bx ox b2 oy bd k x0 x1 y0 y1 d0 d1):w.cell? ⟨B,1,none⟩=some vx∧w.cell? ⟨bx,ox+k,none⟩=some (.int .i64 x0)∧w.cell? ⟨bx,ox+(k+1),none⟩=some (.int .i64 x1):=⟨h.t1,h.a0,h.a1⟩
def ptL (xs:List Int) (ys:List Nat) (k:Nat):List Nat:=
 [ys.getD k 0,ptP (fi (xs.getD (k+1) 0 - xs.getD k 0)) ((dC xs ys xs.length).getD k 0) (ys.getD k 0) (ys.getD (k+1) 0),ptQ (fi (xs.getD (k+1) 0 - xs.getD k 0)) ((dC xs ys xs.length).getD (k+1) 0) (ys.getD (k+1) 0) (ptP (fi (xs.getD (k+1) 0 - xs.getD k 0)) ((dC xs ys xs.length).getD k 0) (ys.getD k 0) (ys.getD (k+1) 0)),ys.getD (k+1) 0]
end Go.Proofs.YtpddmnmhdahnlaaGreat
