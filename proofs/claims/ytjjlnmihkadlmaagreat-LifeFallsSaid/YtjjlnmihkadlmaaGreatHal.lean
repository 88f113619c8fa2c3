/-  -/
import Derived.Test.YtjjlnmihkadlmaaGreatDLen
import Derived.Deep.RegionWith
import Derived.Test.YtjjlnmihkadlmaaGreatHad
import Derived.Laws.BitsAllLaws
import Derived.Laws.Bits64b
import Derived.BigQuiet
namespace Go.Proofs.YtjjlnmihkadlmaaGreat
open Go.RowKit

end Go.Proofs.YtjjlnmihkadlmaaGreat
namespace Go.Proofs.YtjjlnmihkadlmaaGreat
open Go.RowKit

end Go.Proofs.YtjjlnmihkadlmaaGreat
namespace Go.Proofs.YtjjlnmihkadlmaaGreat
open Go.RowKit

def Is (y:Int):Int:=mU y (eaT y / 31) (eaT y % 31+1)

end Go.Proofs.YtjjlnmihkadlmaaGreat
namespace Go.Proofs.YtjjlnmihkadlmaaGreat
open Go.RowKit

open Classical in
noncomputable def mvI (W n mv:Int):Int:=if h:∃ p:Nat×Nat,Ups W n p.1 p.2 then IA W n mv h.choose.1 h.choose.2 else n
def It (m:Int):Int:=if m=2 then 29 else if m=4∨m=6∨m=9∨m=11 then 30 else 31
def Hg (r:Rul):Bool:=
 if r.kind=4 then decide (r.mon=0∧r.nth=0∧r.wd=0∧r.off=0∧r.fr=0∧r.to=0∧r.mv=0∧0≤r.day∧r.day≤109572)
 else decide (1900≤r.fr∧r.fr≤2199∧r.fr≤r.to∧r.to≤2199∧0≤r.mv∧r.mv≤2)&&
  (if r.kind=1 then decide (r.nth=0∧r.wd=0∧r.off=0∧1≤r.mon∧r.mon≤12∧1≤r.day∧r.day≤It r.mon)
  else if r.kind=2 then decide (r.day=0∧r.off=0∧1≤r.mon∧r.mon≤12∧0≤r.wd∧r.wd≤6∧1≤r.nth∧r.nth≤5)
  else if r.kind=3 then decide (r.mon=0∧r.day=0∧r.nth=0∧r.wd=0∧-100≤r.off∧r.off≤100) else false)
open Classical in
noncomputable def Iu (r:Rul) (y:Int):Option Int:=
 if y<r.fr∨r.to<y then none
 else if r.kind=1 then (if okD y r.mon r.day then some (mU y r.mon r.day) else none)
 else if r.kind=2 then some (IB y r.mon r.wd r.nth)
 else if r.kind=3 then some (Is y+r.off) else some 0
noncomputable def Hh (W:Int) (r:Rul) (y:Int):Option Int:=(Iu r y).map (fun n=>mvI W n r.mv)
noncomputable def IC (W:Int) (r:Rul) (n Y:Int):Bool:=
 if r.kind=4 then r.day==n else Hh W r (Y - 1)==some n||Hh W r Y==some n||Hh W r (Y+1)==some n
noncomputable def ID (W:Int) (rs:List Rul) (n Y:Int):Bool:=rs.any fun r=>IC W r n Y
end Go.Proofs.YtjjlnmihkadlmaaGreat
namespace Go.Proofs.YtjjlnmihkadlmaaGreat
open Go.RowKit

def Hi:Rul:=⟨0,0,0,0,0,0,0,0,0⟩
structure RCells (w:World) (b o:Nat) (r:Rul):Prop where
 c0:w.cell? ⟨b,o,none⟩=some (.int .i64 r.kind)
 c1:w.cell? ⟨b,o+1,none⟩=some (.int .i64 r.mon)
 c2:w.cell? ⟨b,o+2,none⟩=some (.int .i64 r.day)
 c3:w.cell? ⟨b,o+3,none⟩=some (.int .i64 r.nth)
 c4:w.cell? ⟨b,o+4,none⟩=some (.int .i64 r.wd)
 c5:w.cell? ⟨b,o+5,none⟩=some (.int .i64 r.off)
 c6:w.cell? ⟨b,o+6,none⟩=some (.int .i64 r.fr)
 c7:w.cell? ⟨b,o+7,none⟩=some (.int .i64 r.to)
 c8:w.cell? ⟨b,o+8,none⟩=some (.int .i64 r.mv)
theorem RCells.below {w w':World} {B b o:Nat} {r:Rul} (h:RCells w b o r) (hb:Below B w w') (hB:b<B):RCells w' b o r:=
 ⟨(hb.cell (p:=⟨b,o,none⟩) hB).trans h.c0,(hb.cell (p:=⟨b,o+1,none⟩) hB).trans h.c1,(hb.cell (p:=⟨b,o+2,none⟩) hB).trans h.c2,(hb.cell (p:=⟨b,o+3,none⟩) hB).trans h.c3,(hb.cell (p:=⟨b,o+4,none⟩) hB).trans h.c4,(hb.cell (p:=⟨b,o+5,none⟩) hB).trans h.c5,(hb.cell (p:=⟨b,o+6,none⟩) hB).trans h.c6,(hb.cell (p:=⟨b,o+7,none⟩) hB).trans h.c7,(hb.cell (p:=⟨b,o+8,none⟩) hB).trans h.c8⟩
structure RSrc (w:World) (p:Option Addr) (b off:Nat) (rs:List Rul):Prop where
 at_:0<rs.length→p=some ⟨b,off,none⟩
 lt:0<rs.length→b<w.heap.size
 cell:∀ i,i<rs.length→RCells w b (off+i*9) (rs.getD i Hi)
theorem RSrc.below {w w':World} {p:Option Addr} {b off:Nat} {rs:List Rul} (h:RSrc w p b off rs) (hb:Below w.heap.size w w'):RSrc w' p b off rs:=
 ⟨h.at_,fun hx=>Nat.lt_of_lt_of_le (h.lt hx) hb.size,fun j hj=>(h.cell j hj).below hb (h.lt (by omega))⟩
end Go.Proofs.YtjjlnmihkadlmaaGreat
namespace Go.Proofs.YtjjlnmihkadlmaaGreat
open Go.RowKit

open Classical in
noncomputable def yrI (n:Int):Int:=if h:∃ y m d,IsD n y m d then h.choose else 0
theorem Iv {n y m d:Int} (h:IsD n y m d):yrI n=y:=by
 have hx:∃ y m d,IsD n y m d:=⟨y,m,d,h⟩
 unfold yrI
 rw [dif_pos hx]
 obtain⟨m',d',h'⟩:=hx.choose_spec
 exact (h'.unique h).1
noncomputable def opB (W:Int) (rs:List Rul) (n:Int):Bool:=!Ap W n&&!ID W rs n (yrI n)
def eo (n:Int):Prop:=0≤n∧n≤109572
instance (n:Int):Decidable (eo n):=by unfold eo;infer_instance
structure OkC (W:Int) (rs:List Rul):Prop where
 len:rs.length≤64
 w0:0≤W
 w1:W≤126
 fit:∀ r ∈ rs,Hg r=true
inductive ChkR (W:Int) (rs:List Rul):Int→Int→Prop where
 | long:64<rs.length→ChkR W rs 2 0
 | week:rs.length≤64→¬ (0≤W∧W≤126)→ChkR W rs 60 (-1)
 | rule (k:Nat):rs.length≤64→(0≤W∧W≤126)→k<rs.length→Hg (rs.getD k Hi)=false→(∀ j<k,Hg (rs.getD j Hi)=true)→ChkR W rs 60 k
 | ok:OkC W rs→ChkR W rs 0 0
open Classical in
noncomputable def moI (n:Int):Int:=if h:∃ k,∃ y m d,IsD n y m d∧k=12*y+m then h.choose else 0
theorem Iw {n y m d:Int} (h:IsD n y m d):moI n=12*y+m:=by
 have hx:∃ k,∃ y m d,IsD n y m d∧k=12*y+m:=⟨_,y,m,d,h,rfl⟩
 unfold moI
 rw [dif_pos hx]
 obtain⟨y',m',d',h',e⟩:=hx.choose_spec
 obtain⟨e1,e2,_⟩:=h'.unique h
 rw [e,e1,e2]

def Fz (op:Int→Bool) (a:Int):Nat→Nat
 | 0=>0
 | k+1=>Fz op a k+(if op (a+k) then 1 else 0)
theorem Hj (op:Int→Bool) (a:Int) (k:Nat):Fz op a k≤k:=by
 induction k with
 | zero=>exact Nat.le_refl _
 | succ k ih=>show Fz op a k+(if op (a+k) then 1 else 0)≤k+1;split<;>omega

end Go.Proofs.YtjjlnmihkadlmaaGreat
namespace Go.Proofs.YtjjlnmihkadlmaaGreat
open Go.RowKit

def FO (kind ya ma da yb mb db:Int):Int:=360*(yb - ya)+30*(mb - ma)+(if kind=5∨min da 30=30 then min db 30 else db) - min da 30
def DE (y n:Int):Int:=133590*(y - 1900)+(n - nyI y)*(366 - lpI y)
theorem DF {y n:Int} (h:1900≤y) (h':y≤2200) (h0:nyI y≤n) (h1:n≤nyI (y+1)):0≤DE y n∧DE y n≤50000000:=by
 unfold DE
 rw [qX h] at h1
 rcases lp_cases y with e | e<;>rw [e] at h1 ⊢<;>constructor<;>omega
end Go.Proofs.YtjjlnmihkadlmaaGreat
namespace Go.Proofs.YtjjlnmihkadlmaaGreat
open Go.RowKit

end Go.Proofs.YtjjlnmihkadlmaaGreat
namespace Go.Proofs.YtjjlnmihkadlmaaGreat
open Go.RowKit

end Go.Proofs.YtjjlnmihkadlmaaGreat
namespace Go.Proofs.YtjjlnmihkadlmaaGreat
open Go.RowKit

end Go.Proofs.YtjjlnmihkadlmaaGreat
namespace Go.Proofs.YtjjlnmihkadlmaaGreat
open Go.RowKit

end Go.Proofs.YtjjlnmihkadlmaaGreat
namespace Go.Proofs.YtjjlnmihkadlmaaGreat
open Go.RowKit

end Go.Proofs.YtjjlnmihkadlmaaGreat
namespace Go.Proofs.YtjjlnmihkadlmaaGreat
open Go.RowKit

end Go.Proofs.YtjjlnmihkadlmaaGreat
namespace Go.Proofs.YtjjlnmihkadlmaaGreat
open Go.RowKit

end Go.Proofs.YtjjlnmihkadlmaaGreat
namespace Go.Proofs.YtjjlnmihkadlmaaGreat
open Go.RowKit

end Go.Proofs.YtjjlnmihkadlmaaGreat
namespace Go.Proofs.YtjjlnmihkadlmaaGreat
open Go.RowKit

end Go.Proofs.YtjjlnmihkadlmaaGreat
namespace Go.Proofs.YtjjlnmihkadlmaaGreat
open Go.RowKit

end Go.Proofs.YtjjlnmihkadlmaaGreat
namespace Go.Proofs.YtjjlnmihkadlmaaGreat
open Go.RowKit

end Go.Proofs.YtjjlnmihkadlmaaGreat
namespace Go.Proofs.YtjjlnmihkadlmaaGreat
open Go.RowKit

end Go.Proofs.YtjjlnmihkadlmaaGreat
namespace Go.Proofs.YtjjlnmihkadlmaaGreat
open Go.RowKit

end Go.Proofs.YtjjlnmihkadlmaaGreat
namespace Go.Proofs.YtjjlnmihkadlmaaGreat
open Go.RowKit

noncomputable def moD (n:Int):Int:=moI n - 12*yrI n
noncomputable def daD (n:Int):Int:=n - nyI (yrI n) - eY (yrI n) (moD n)+1
theorem xR {n y m d:Int} (h:IsD n y m d):yrI n=y∧moD n=m∧daD n=d:=by
 have e1:=Iv h
 have e2:moD n=m:=by unfold moD;rw [Iw h,e1];omega
 refine⟨e1,e2,?_⟩
 unfold daD
 rw [e1,e2]
 have:=h.2
 unfold mU at this
 omega
noncomputable def tY (op:Int→Bool) (kind a b:Int):Int:=
 if kind=1∨kind=2 then b - a else if kind=3 then DE (yrI b) b - DE (yrI a) a else if kind=6 then (Fz op a (b - a).toNat:Nat) else FO kind (yrI a) (moD a) (daD a) (yrI b) (moD b) (daD b)
def xS (kind:Int):Int:=if kind=2 then 365 else if kind=3 then 133590 else if kind=6 then 252 else 360

end Go.Proofs.YtjjlnmihkadlmaaGreat
namespace Go.Proofs.YtjjlnmihkadlmaaGreat
open Go.RowKit

def IE (a b:Int):Prop:=¬ (eo a∧eo b)
end Go.Proofs.YtjjlnmihkadlmaaGreat
namespace Go.Proofs.YtjjlnmihkadlmaaGreat
open Go.RowKit

end Go.Proofs.YtjjlnmihkadlmaaGreat
namespace Go.Proofs.YtjjlnmihkadlmaaGreat
open Go.RowKit

theorem tZ (op:Int→Bool) {kind a b:Int} (ha:eo a) (hb:eo b) (hab:a≤b): -1000000000≤tY op kind a b∧tY op kind a b≤1000000000:=by
 obtain⟨ya,ma,da,hA⟩:=DD ha.1 ha.2
 obtain⟨yb,mb,db,hB⟩:=DD hb.1 hb.2
 obtain⟨e1,e2,e3⟩:=xR hA
 obtain⟨f1,f2,f3⟩:=xR hB
 unfold tY
 rw [e1,e2,e3,f1,f2,f3]
 have ra:=hA.year
 have rb:=hB.year
 obtain⟨⟨a1,a2,a3,a4,a5,a6⟩,_⟩:=hA
 obtain⟨⟨b1,b2,b3,b4,b5,b6⟩,_⟩:=hB
 have la:=Dz ya ma
 have lb:=Dz yb mb
 have c:=Hj op a (b - a).toNat
 have xa:=DF (y:=ya) (n:=a) a1 (by omega) ra.1 (by omega)
 have xb:=DF (y:=yb) (n:=b) b1 (by omega) rb.1 (by omega)
 obtain⟨a7,a8⟩:=ha
 obtain⟨b7,b8⟩:=hb
 split
 ·omega
 ·split
  ·omega
  ·split
   ·omega
   ·unfold FO
    split<;>omega
noncomputable def xT (op:Int→Bool) (kind a b:Int):Int:=if b<a then -tY op kind b a else tY op kind a b
theorem DG (op:Int→Bool) {kind a b:Int} (ha:eo a) (hb:eo b): -1000000000≤xT op kind a b∧xT op kind a b≤1000000000:=by
 unfold xT
 split
 ·have:=tZ op (kind:=kind) hb ha (by omega);omega
 ·exact tZ op ha hb (by omega)
end Go.Proofs.YtjjlnmihkadlmaaGreat
namespace Go.Proofs.YtjjlnmihkadlmaaGreat
open Go.RowKit

end Go.Proofs.YtjjlnmihkadlmaaGreat
namespace Go.Proofs.YtjjlnmihkadlmaaGreat
open Go.RowKit

end Go.Proofs.YtjjlnmihkadlmaaGreat
namespace Go.Proofs.YtjjlnmihkadlmaaGreat
open Go.RowKit

end Go.Proofs.YtjjlnmihkadlmaaGreat
namespace Go.Proofs.YtjjlnmihkadlmaaGreat
open Go.RowKit

end Go.Proofs.YtjjlnmihkadlmaaGreat
namespace Go.Proofs.YtjjlnmihkadlmaaGreat
open Go.RowKit

end Go.Proofs.YtjjlnmihkadlmaaGreat
namespace Go.Proofs.YtjjlnmihkadlmaaGreat
open Go.RowKit

end Go.Proofs.YtjjlnmihkadlmaaGreat
namespace Go.Proofs.YtjjlnmihkadlmaaGreat
open Go.RowKit

end Go.Proofs.YtjjlnmihkadlmaaGreat
namespace Go.Proofs.YtjjlnmihkadlmaaGreat
open Go.RowKit

end Go.Proofs.YtjjlnmihkadlmaaGreat
