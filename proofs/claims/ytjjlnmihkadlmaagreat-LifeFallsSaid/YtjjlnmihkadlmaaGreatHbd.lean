/-  -/
import Derived.Test.YtjjlnmihkadlmaaGreatHbb
import Derived.Test.YtjjlnmihkadlmaaGreatHat
import Derived.Test.YtjjlnmihkadlmaaGreatHar
namespace Go.Proofs.YtjjlnmihkadlmaaGreat
open Go.RowKit

def slB (a b:Nat):Nat:=if (ltB 0 (a:Nat)&&ltB 0 (b:Nat))||(ltB (a:Nat) 0&&ltB (b:Nat) 0) then cK 4611686018427387904 (iw (cK 4607182418800017408 a) (cK 4607182418800017408 b)) else 0
def eK (xs:List Int) (ys:List Nat):Nat→List Nat
 | 0=>[bp xs ys 0]
 | k+1=>eK xs ys k++[slB (bp xs ys k) (bp xs ys (k+1))]
def dm (xs:List Int) (ys:List Nat) (n:Nat):List Nat:=if n=1 then [0] else eK xs ys (n - 2)++[bp xs ys (n - 2)]
theorem gN (xs:List Int) (ys:List Nat):∀ k,(eK xs ys k).length=k+1
 | 0=>rfl
 | k+1=>by show (eK xs ys k++[_]).length=_;rw [List.length_append,gN xs ys k];rfl
theorem lS (xs:List Int) (ys:List Nat) (k:Nat):eK xs ys (k+1)=eK xs ys k++[slB (bp xs ys k) (bp xs ys (k+1))]:=rfl
theorem TBox.stay {w wr w':World} {kind:Int} {vx vy:Value} (h:TBox w kind vx vy wr) (hb:Below (w.heap.size+1) wr w'):TBox w kind vx vy w':=
 ⟨(hb.cell (p:=⟨w.heap.size,0,none⟩) (Nat.lt_succ_self _)).trans h.t0,(hb.cell (p:=⟨w.heap.size,1,none⟩) (Nat.lt_succ_self _)).trans h.t1,(hb.cell (p:=⟨w.heap.size,2,none⟩) (Nat.lt_succ_self _)).trans h.t2,h.bl.trans (hb.mono (Nat.le_succ _)),Nat.lt_of_lt_of_le h.lt hb.size⟩
inductive SlO (a b:Nat):Nat→Prop
 | up (h1:ltB 0 (a:Nat)=true) (h2:ltB 0 (b:Nat)=true):SlO a b (cK 4611686018427387904 (iw (cK 4607182418800017408 a) (cK 4607182418800017408 b)))
 | down1 (h1:ltB 0 (a:Nat)=false) (h3:ltB (a:Nat) 0=true) (h4:ltB (b:Nat) 0=true):SlO a b (cK 4611686018427387904 (iw (cK 4607182418800017408 a) (cK 4607182418800017408 b)))
 | flat1 (h1:ltB 0 (a:Nat)=false) (h3:ltB (a:Nat) 0=true) (h4:ltB (b:Nat) 0=false):SlO a b 0
 | flat2 (h1:ltB 0 (a:Nat)=false) (h3:ltB (a:Nat) 0=false):SlO a b 0
 | flat3 (h1:ltB 0 (a:Nat)=true) (h2:ltB 0 (b:Nat)=false) (h3:ltB (a:Nat) 0=false):SlO a b 0
theorem BH {u v:Int} (h:ltB u v=true):ltB v u=false:=by
 unfold ltB at h ⊢
 simp only [Bool.and_eq_true,Bool.not_eq_true',decide_eq_true_eq] at h
 rw [h.1.1,h.1.2]
 simp
 omega
theorem Gh (a b:Nat):SlO a b (slB a b):=by
 unfold slB
 cases h1:ltB 0 (a:Nat)
 ·cases h3:ltB (a:Nat) 0
  ·simp;exact .flat2 h1 h3
  ·cases h4:ltB (b:Nat) 0
   ·simp;exact .flat1 h1 h3 h4
   ·simp;exact .down1 h1 h3 h4
 ·have h3:=BH h1
  cases h2:ltB 0 (b:Nat)
  ·rw [h3];simp;exact .flat3 h1 h2 h3
  ·simp;exact .up h1 h2
end Go.Proofs.YtjjlnmihkadlmaaGreat
namespace Go.Proofs.YtjjlnmihkadlmaaGreat
open Go.RowKit

def heldN (v a b:Nat):Nat:=(dq (v:Nat) (a:Nat) (b:Nat)).toNat
theorem fB {v a b:Nat} (hv:v<18446744073709551616) (ha:a<18446744073709551616) (hb:b<18446744073709551616):((heldN v a b:Nat):Int)=dq (v:Nat) (a:Nat) (b:Nat):=by
 have:=(sf (aX hv) (aX ha) (aX hb)).1
 unfold heldN;omega
theorem lT {v a b:Nat} (hv:v<18446744073709551616) (ha:a<18446744073709551616) (hb:b<18446744073709551616):heldN v a b<18446744073709551616:=by
 have:=sf (aX hv) (aX ha) (aX hb)
 have e:=fB hv ha hb
 have:=this.2
 omega
def ptP (h d a b:Nat):Nat:=heldN (iw a (cK (nD d h) (fi 3))) a b
def ptQ (h d b p:Nat):Nat:=heldN (lQ b (cK (nD d h) (fi 3))) p b
structure PRd (w:World) (B:Nat) (vx vy:Value) (bx ox b2 oy bd k:Nat) (x0 x1:Int) (y0 y1 d0 d1:Nat):Prop where
 t1:w.cell? ⟨B,1,none⟩=some vx
 t2:w.cell? ⟨B,2,none⟩=some vy
 a0:w.cell? ⟨bx,ox+k,none⟩=some (.int .i64 x0)
 a1:w.cell? ⟨bx,ox+(k+1),none⟩=some (.int .i64 x1)
 b0:w.cell? ⟨b2,oy+k,none⟩=some (.int .u64 (y0:Int))
 b1:w.cell? ⟨b2,oy+(k+1),none⟩=some (.int .u64 (y1:Int))
 e0:w.cell? ⟨bd,k,none⟩=some (.int .u64 (d0:Int))
 e1:w.cell? ⟨bd,k+1,none⟩=some (.int .u64 (d1:Int))
 lB:B<w.heap.size
 lx:bx<w.heap.size
 ly:b2<w.heap.size
 ld:bd<w.heap.size
theorem PRd.three {w:World} {B:Nat} {vx vy:Value} {bx ox b2 oy bd k:Nat} {x0 x1:Int} {y0 y1 d0 d1:Nat} (h:PRd w B vx vy bx ox b2 oy bd k x0 x1 y0 y1 d0 d1):w.cell? ⟨B,1,none⟩=some vx∧w.cell? ⟨bx,ox+k,none⟩=some (.int .i64 x0)∧w.cell? ⟨bx,ox+(k+1),none⟩=some (.int .i64 x1):=⟨h.t1,h.a0,h.a1⟩
def ptL (xs:List Int) (ys:List Nat) (k:Nat):List Nat:=
 [ys.getD k 0,ptP (fi (xs.getD (k+1) 0 - xs.getD k 0)) ((dm xs ys xs.length).getD k 0) (ys.getD k 0) (ys.getD (k+1) 0),ptQ (fi (xs.getD (k+1) 0 - xs.getD k 0)) ((dm xs ys xs.length).getD (k+1) 0) (ys.getD (k+1) 0) (ptP (fi (xs.getD (k+1) 0 - xs.getD k 0)) ((dm xs ys xs.length).getD k 0) (ys.getD k 0) (ys.getD (k+1) 0)),ys.getD (k+1) 0]
end Go.Proofs.YtjjlnmihkadlmaaGreat
