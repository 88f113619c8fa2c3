/- A slice of ints, wherever it lies. -/
import Derived.Test.YtejpplcccbiplaaAccP
namespace Go.Proofs.Ytejpplcccbiplaa
open Go.RowKit

/-- A slice that reads as a list of ints. -/
structure SrcI (w : World) (p : Option Addr) (b off : Nat) (xs : List Int) : Prop where
  at_ : 0 < xs.length → p = some ⟨b, off, none⟩
  lt : 0 < xs.length → b < w.heap.size
  cell : ∀ j, j < xs.length → w.cell? ⟨b, off + j, none⟩ = some (.int .i64 (xs.getD j 0))
theorem SrcI.below {w w' : World} {p : Option Addr} {b off : Nat} {xs : List Int} (h : SrcI w p b off xs) (hb : Below w.heap.size w w') : SrcI w' p b off xs :=
  ⟨h.at_, fun hx => Nat.lt_of_lt_of_le (h.lt hx) hb.size, fun j hj => (hb.cell (p := ⟨b, off + j, none⟩) (h.lt (by omega))).trans (h.cell j hj)⟩
end Go.Proofs.Ytejpplcccbiplaa
