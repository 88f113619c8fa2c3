/- strconv's text of 0.375 with two places: setDigits, fmtEFG. strconv's text of 0.375 with two places: ftoa64. -/
import Derived.Test.YtiiajhomdpfafaaGreatDoorHao
import Derived.Test.YtiiajhomdpfafaaGreatDoorTqR
namespace Go.Proofs.YtiiajhomdpfafaaGreatDoor
open Go.RowKit

structure EfS (w0 : World) (B g : Nat) (cur : Array Value) (w : World) (v : Value) (n : Nat) (xs : List Int) : Prop where
  own : w.ownsRow B 5 1 v n (byV xs)
  buf : w.heap[g]? = some (.cells cur 239)
  bel : Below B w0 w
  le : B ≤ w.heap.size
theorem EfS.more {w0 : World} {B g : Nat} {cur : Array Value} {w w5 : World} {v v5 : Value} {n : Nat} {xs ys : List Int} (h : EfS w0 B g cur w v n xs) (h5 : w5.ownsRow B 5 1 v5 (n + 1) (byV ys)) (hg : w.grownBy w5 v.ownBlock) : EfS w0 B g cur w5 v5 (n + 1) ys := by
  have := by_more h.own h.buf (by decide) h.bel h.le h5 hg
  exact ⟨this.1.1, this.1.2, this.2.1, this.2.2⟩
end Go.Proofs.YtiiajhomdpfafaaGreatDoor
namespace Go.Proofs.YtiiajhomdpfafaaGreatDoor
open Go.RowKit

def z24 : Array Value := #[.int .u8 0, .int .u8 0, .int .u8 0, .int .u8 0, .int .u8 0, .int .u8 0, .int .u8 0, .int .u8 0, .int .u8 0, .int .u8 0, .int .u8 0, .int .u8 0, .int .u8 0, .int .u8 0, .int .u8 0, .int .u8 0, .int .u8 0, .int .u8 0, .int .u8 0, .int .u8 0, .int .u8 0, .int .u8 0, .int .u8 0, .int .u8 0]
def d24 : Array Value := (z24.setIfInBounds 1 (.int .u8 56)).setIfInBounds 0 (.int .u8 51)
end Go.Proofs.YtiiajhomdpfafaaGreatDoor
