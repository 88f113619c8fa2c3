/-  -/
import Derived.Test.YtpddmnmhdahnlabGreatHas
import Derived.Laws.AppendOwnNone
import Derived.OwnWalk
import Derived.WalkKit
import Derived.Handy
namespace Go.Proofs.YtpddmnmhdahnlabGreat
open Go.RowKit

theorem Ik:(Tryz.prog.info? 34).map (fun i=>(i.zero,i.size,i.bytes))=some (some (.int .u64 0),1,8):=by kernel_rfl
structure USrc (w:World) (p:Option Addr) (b off:Nat) (xs:List Nat):Prop where
 at_:0<xs.length→p=some ⟨b,off,none⟩
 lt:0<xs.length→b<w.heap.size
 cell:∀ j,j<xs.length→w.cell? ⟨b,off+j,none⟩=some (.int .u64 (xs.getD j 0:Nat))
theorem USrc.below {w w':World} {p:Option Addr} {b off:Nat} {xs:List Nat} (h:USrc w p b off xs) (hb:Below w.heap.size w w'):USrc w' p b off xs:=
 ⟨h.at_,fun hx=>Nat.lt_of_lt_of_le (h.lt hx) hb.size,fun j hj=>(hb.cell (p:=⟨b,off+j,none⟩) (h.lt (by omega))).trans (h.cell j hj)⟩
end Go.Proofs.YtpddmnmhdahnlabGreat
namespace Go.Proofs.YtpddmnmhdahnlabGreat
open Go.RowKit

theorem gZ:(Tryz.prog.info? 23).map (fun i=>(i.zero,i.size,i.bytes))=some (some (.float .f64 0),1,8):=by kernel_rfl
structure FlSrc (w:World) (p:Option Addr) (b off:Nat) (xs:List Nat):Prop where
 at_:0<xs.length→p=some ⟨b,off,none⟩
 lt:0<xs.length→b<w.heap.size
 cell:∀ j,j<xs.length→w.cell? ⟨b,off+j,none⟩=some (.float .f64 (xs.getD j 0))
theorem FlSrc.below {w w':World} {p:Option Addr} {b off:Nat} {xs:List Nat} (h:FlSrc w p b off xs) (hb:Below w.heap.size w w'):FlSrc w' p b off xs:=
 ⟨h.at_,fun hx=>Nat.lt_of_lt_of_le (h.lt hx) hb.size,fun j hj=>(hb.cell (p:=⟨b,off+j,none⟩) (h.lt (by omega))).trans (h.cell j hj)⟩
theorem BI {w:World} {base n:Nat} {v:Value} {xs:List Nat} (h:w.ownsRow base 23 1 v n (xs.map fV)) (hn:xs.length=n) :
  ∃ p g c,v=.slice p n c∧FlSrc w p g 0 xs∧base≤g∧n≤c∧c≤maxLen:=by
 rcases h.2 with⟨rfl,rfl⟩| ⟨g,cap,cur,rfl,hg,hh,hnc,hcm,hsz,htk⟩
 ·exact⟨none,base,0,rfl,⟨fun h=>by omega,fun h=>by omega,fun i hi=>by omega⟩,Nat.le_refl _,Nat.le_refl _,Nat.zero_le _⟩
 ·refine⟨_,g,cap,rfl,⟨fun _=>rfl,fun _=>(Array.getElem?_eq_some_iff.1 hh).1,fun i hi=>?_⟩,hg,hnc,hcm⟩
  rw [Nat.zero_add,World.ownsRow.cellAt h i (by omega),List.getElem?_map,List.getD_eq_getElem?_getD,List.getElem?_eq_getElem hi];rfl
end Go.Proofs.YtpddmnmhdahnlabGreat
namespace Go.Proofs.YtpddmnmhdahnlabGreat
open Go.RowKit

structure Flw where
 (day:Int) (am:Nat) (cur:Int)
def aD:Flw:=⟨0,0,0⟩
def aF (a:Nat):Value:=.float .f64 a
structure FCells (mk:Nat→Value) (w:World) (b o:Nat) (f:Flw):Prop where
 c0:w.cell? ⟨b,o,none⟩=some (.int .i64 f.day)
 c1:w.cell? ⟨b,o+1,none⟩=some (mk f.am)
 c2:w.cell? ⟨b,o+2,none⟩=some (.int .i64 f.cur)
theorem FCells.below {mk:Nat→Value} {w w':World} {B b o:Nat} {f:Flw} (h:FCells mk w b o f) (hb:Below B w w') (hB:b<B):FCells mk w' b o f:=
 ⟨(hb.cell (p:=⟨b,o,none⟩) hB).trans h.c0,(hb.cell (p:=⟨b,o+1,none⟩) hB).trans h.c1,(hb.cell (p:=⟨b,o+2,none⟩) hB).trans h.c2⟩
structure JSrc (mk:Nat→Value) (w:World) (p:Option Addr) (b off:Nat) (l:List Flw):Prop where
 at_:0<l.length→p=some ⟨b,off,none⟩
 lt:0<l.length→b<w.heap.size
 cell:∀ i,i<l.length→FCells mk w b (off+i*3) (l.getD i aD)
theorem JSrc.below {mk:Nat→Value} {w w':World} {p:Option Addr} {b off:Nat} {l:List Flw} (h:JSrc mk w p b off l) (hb:Below w.heap.size w w'):JSrc mk w' p b off l:=
 ⟨h.at_,fun hx=>Nat.lt_of_lt_of_le (h.lt hx) hb.size,fun j hj=>(h.cell j hj).below hb (h.lt (by omega))⟩
end Go.Proofs.YtpddmnmhdahnlabGreat
