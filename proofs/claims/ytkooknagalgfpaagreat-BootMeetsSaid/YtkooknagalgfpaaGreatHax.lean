/-  -/
import Derived.Test.YtkooknagalgfpaaGreatHav
import Derived.Laws.AppendOwnNone
import Derived.OwnWalk
import Derived.WalkKit
import Derived.Handy
namespace Go.Proofs.YtkooknagalgfpaaGreat
open Go.RowKit

theorem MI:(Tryz.prog.info? 49).map (fun i=>(i.zero,i.size,i.bytes))=some (some (.int .u64 0),1,8):=by kernel_rfl
end Go.Proofs.YtkooknagalgfpaaGreat
namespace Go.Proofs.YtkooknagalgfpaaGreat
open Go.RowKit

theorem qW:(Tryz.prog.info? 46).map (fun i=>(i.zero,i.size,i.bytes))=some (some (.float .f64 0),1,8):=by kernel_rfl
structure FlSrc (w:World) (p:Option Addr) (b off:Nat) (xs:List Nat):Prop where
 at_:0<xs.length→p=some ⟨b,off,none⟩
 lt:0<xs.length→b<w.heap.size
 cell:∀ j,j<xs.length→w.cell? ⟨b,off+j,none⟩=some (.float .f64 (xs.getD j 0))
theorem Fs {w:World} {base n:Nat} {v:Value} {xs:List Nat} (h:w.ownsRow base 46 1 v n (xs.map fV)) (hn:xs.length=n) :
  ∃ p g c,v=.slice p n c∧FlSrc w p g 0 xs∧base≤g∧n≤c∧c≤maxLen:=by
 rcases h.2 with⟨rfl,rfl⟩| ⟨g,cap,cur,rfl,hg,hh,hnc,hcm,hsz,htk⟩
 ·exact⟨none,base,0,rfl,⟨fun h=>by omega,fun h=>by omega,fun i hi=>by omega⟩,Nat.le_refl _,Nat.le_refl _,Nat.zero_le _⟩
 ·refine⟨_,g,cap,rfl,⟨fun _=>rfl,fun _=>(Array.getElem?_eq_some_iff.1 hh).1,fun i hi=>?_⟩,hg,hnc,hcm⟩
  rw [Nat.zero_add,World.ownsRow.cellAt h i (by omega),List.getElem?_map,List.getD_eq_getElem?_getD,List.getElem?_eq_getElem hi];rfl
end Go.Proofs.YtkooknagalgfpaaGreat
