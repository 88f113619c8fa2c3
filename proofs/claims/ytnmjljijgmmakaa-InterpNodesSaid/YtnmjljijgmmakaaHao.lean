/- The contract of ShiftDown. The contract of the document's 'rounded' at 53 bits. Contracts of the document's Near: made, Zero, far, NearMore, Near. Contracts of the document's Whole, Join, Of and Split. The contracts of AddDigits, SubDigits, CmpDigits. The contracts of both, low and Plus of the document. The contract of the document's Plus. The contract of the document's Plus, of two signs. -/
import Derived.Test.YtnmjljijgmmakaaHaj
import Derived.Deep.RegionHeld3
import Derived.Test.YtnmjljijgmmakaaHac
import Derived.Deep.RegionWith
import Derived.Lib.MinMax
import Derived.Test.YtnmjljijgmmakaaHah
namespace Go.Proofs.Ytnmjljijgmmakaa
open Go.RowKit

/-- The row half filled. -/
def Half (w : World) (b n M j : Nat) : Prop := w.rowIs b 45 n (fun i => .int .u64 ((if i < j then dgt M i else 0 : Nat) : Int))
end Go.Proofs.Ytnmjljijgmmakaa
namespace Go.Proofs.Ytnmjljijgmmakaa
open Go.RowKit

theorem DN.drewN {w : World} {v : Value} {N : Nat} (h : DN w v N) (n : Nat) : DN (w.drewN n) v N := h

end Go.Proofs.Ytnmjljijgmmakaa
namespace Go.Proofs.Ytnmjljijgmmakaa
open Go.RowKit

end Go.Proofs.Ytnmjljijgmmakaa
namespace Go.Proofs.Ytnmjljijgmmakaa
open Go.RowKit

theorem DN.shape {w : World} {v : Value} {N : Nat} (h : DN w v N) : ∃ p l c, v = .slice p l c := by
  rcases h with ⟨_, p, c, rfl⟩ | ⟨_, g, c, rfl, _⟩
  · exact ⟨p, 0, c, rfl⟩
  · exact ⟨_, _, _, rfl⟩

end Go.Proofs.Ytnmjljijgmmakaa
namespace Go.Proofs.Ytnmjljijgmmakaa
open Go.RowKit

end Go.Proofs.Ytnmjljijgmmakaa
namespace Go.Proofs.Ytnmjljijgmmakaa
open Go.RowKit

/-- A number with its sign. -/
def sg (neg : Bool) (N : Nat) : Int := if neg then -(N : Int) else (N : Int)

/-- Two boxes' six cells. -/
def Six (w : World) (B : Nat) (nx : Bool) (vx : Value) (ex : Int) (ny : Bool) (vy : Value) (ey : Int) : Prop :=
  w.cell? ⟨B, 0, none⟩ = some (.bool nx) ∧ w.cell? ⟨B, 1, none⟩ = some vx ∧ w.cell? ⟨B, 2, none⟩ = some (.int .i64 ex) ∧
  w.cell? ⟨B + 1, 0, none⟩ = some (.bool ny) ∧ w.cell? ⟨B + 1, 1, none⟩ = some vy ∧ w.cell? ⟨B + 1, 2, none⟩ = some (.int .i64 ey)
theorem Six.below {w w' : World} {B : Nat} {nx ny : Bool} {vx vy : Value} {ex ey : Int} {s : Nat} (h : Six w B nx vx ex ny vy ey) (hb : Below s w w') (hs : B + 1 < s) : Six w' B nx vx ex ny vy ey := by
  obtain ⟨a, b, c, d, e, f⟩ := h
  exact ⟨(hb.cell (p := ⟨B, 0, none⟩) (by show B < s; omega)).trans a, (hb.cell (p := ⟨B, 1, none⟩) (by show B < s; omega)).trans b, (hb.cell (p := ⟨B, 2, none⟩) (by show B < s; omega)).trans c, (hb.cell (p := ⟨B + 1, 0, none⟩) hs).trans d, (hb.cell (p := ⟨B + 1, 1, none⟩) hs).trans e, (hb.cell (p := ⟨B + 1, 2, none⟩) hs).trans f⟩
end Go.Proofs.Ytnmjljijgmmakaa
namespace Go.Proofs.Ytnmjljijgmmakaa
open Go.RowKit

theorem From.mono {A B : Nat} {v : Value} (h : From B v) (hle : A ≤ B) : From A v := fun a l c e => Nat.le_trans hle (h a l c e)

end Go.Proofs.Ytnmjljijgmmakaa
namespace Go.Proofs.Ytnmjljijgmmakaa
open Go.RowKit

end Go.Proofs.Ytnmjljijgmmakaa
