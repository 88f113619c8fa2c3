/- strconv's digits of 0.375 with two places. strconv's digits of 0.375 with two places: fixedWidthFloat, numDigits. strconv's digits of 0.375 with two places: formatBase10, setDigits. -/
import Derived.Test.YtiiajhomdpfafaaGreatDoorProg
import Derived.Handy
import Derived.WalkMore
import Derived.Below
import Derived.BigFrame
import Derived.BigQuiet
import Derived.WalkSpells
import Derived.WalkLawsBesides
import Derived.Lib.MinMax
import Derived.Deep.RegionHeld3
namespace Go.Proofs.YtiiajhomdpfafaaGreatDoor
open Go.RowKit

structure PrT (w : World) : Prop where
  hi : w.cell? ⟨13, 702, none⟩ = some (.int .u64 18014398509481984000)
  lo : w.cell? ⟨13, 703, none⟩ = some (.int .u64 0)
  p1 : w.cell? ⟨4, 1, none⟩ = some (.int .u64 10)
  p3 : w.cell? ⟨4, 3, none⟩ = some (.int .u64 1000)
  op : w.cell? ⟨6, 0, none⟩ = some (.bool true)
theorem PrT.below {w w' : World} (h : PrT w) (hb : Below w.heap.size w w') : PrT w' := by
  have k : ∀ (a : Addr) v, w.cell? a = some v → w'.cell? a = some v := fun a v e => (World.cell?_of_block (w := w) (a := a) (hb.block a.block (World.block_lt_of_cell? _ _ e))).trans e
  exact ⟨k _ _ h.hi, k _ _ h.lo, k _ _ h.p1, k _ _ h.p3, k _ _ h.op⟩
end Go.Proofs.YtiiajhomdpfafaaGreatDoor
namespace Go.Proofs.YtiiajhomdpfafaaGreatDoor
open Go.RowKit

theorem hidT {P : Prop} (h : P) : Hid P := h
end Go.Proofs.YtiiajhomdpfafaaGreatDoor
namespace Go.Proofs.YtiiajhomdpfafaaGreatDoor
open Go.RowKit

end Go.Proofs.YtiiajhomdpfafaaGreatDoor
