/- Rows of bytes of one's own. -/
import Derived.Test.YtiiajhomdpfafaaGreatDoorProg
import Derived.Handy
import Derived.WalkMore
import Derived.Below
import Derived.BigFrame
import Derived.WalkSpells
import Derived.Laws.AppendOwnNone
import Derived.Laws.Rows
import Derived.Maps.AppendAt
import Derived.Laws.OwnMore
namespace Go.Proofs.YtiiajhomdpfafaaGreatDoor
open Go.RowKit

def byV (l : List Int) : List Value := l.map fun n => Value.int .u8 n
theorem by_box {B n g : Nat} {T' : TypeId} {v : Value} {xs : List Value} {w : World} {cur : Array Value} (h : w.ownsRow B 5 1 v n xs) (hb : w.heap[g]? = some (.cells cur T')) (hT : 5 ≠ T') : some g ≠ v.ownBlock := fun hg => by
  rcases h.2 with ⟨rfl, _⟩ | ⟨g', cap, cur', rfl, _, hgg, _⟩
  · cases hg
  · have : g = g' := by simpa [Value.ownBlock] using hg
    subst this
    rw [hb] at hgg
    injection hgg with hgg
    injection hgg with _ hgg
    exact hT hgg.symm
theorem by_cell {w : World} {g : Nat} {cs : Array Value} {T : TypeId} (h : w.heap[g]? = some (.cells cs T)) (i : Nat) {v : Value} (hv : cs[i]? = some v) : w.cell? ⟨g, i, none⟩ = some v ∧ w.frozen? ⟨g, i, none⟩ = false := by
  refine ⟨?_, by simp [World.frozen?, h]⟩
  simp only [World.cell?, h, Option.isSome_none, Bool.false_eq_true, if_false]
  exact hv
theorem by_lt {w : World} {b : Nat} {o : Obj} (h : w.heap[b]? = some o) : b < w.heap.size := (Array.getElem?_eq_some_iff.1 h).1
theorem by_more {B n g : Nat} {T' : TypeId} {v v5 : Value} {xs ys : List Int} {w0 w w5 : World} {cur : Array Value} (ho : w.ownsRow B 5 1 v n (byV xs)) (hbf : w.heap[g]? = some (.cells cur T')) (hT : 5 ≠ T') (hb : Below B w0 w) (hB : B ≤ w.heap.size) (h5 : w5.ownsRow B 5 1 v5 (n + 1) (byV ys)) (hg : w.grownBy w5 v.ownBlock) : (w5.ownsRow B 5 1 v5 (n + 1) (byV ys) ∧ w5.heap[g]? = some (.cells cur T')) ∧ Below B w0 w5 ∧ B ≤ w5.heap.size :=
  ⟨⟨h5, (hg.block g (by_lt hbf) (by_box ho hbf hT)).trans hbf⟩, hb.trans ((Below.refl B w).grown hg hB (fun k hk => (ho.lt k hk).1)), Nat.le_trans hB hg.size⟩
end Go.Proofs.YtiiajhomdpfafaaGreatDoor
