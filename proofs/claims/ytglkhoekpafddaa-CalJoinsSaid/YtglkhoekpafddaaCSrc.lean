/- A slice of rules that came in. -/
import Derived.Test.YtglkhoekpafddaaCRule
namespace Go.Proofs.Ytglkhoekpafddaa
open Go.RowKit

def rul0 : Rul := ⟨0, 0, 0, 0, 0, 0, 0, 0, 0⟩
/-- A rule's nine cells. -/
structure RCells (w : World) (b o : Nat) (r : Rul) : Prop where
  c0 : w.cell? ⟨b, o, none⟩ = some (.int .i64 r.kind)
  c1 : w.cell? ⟨b, o + 1, none⟩ = some (.int .i64 r.mon)
  c2 : w.cell? ⟨b, o + 2, none⟩ = some (.int .i64 r.day)
  c3 : w.cell? ⟨b, o + 3, none⟩ = some (.int .i64 r.nth)
  c4 : w.cell? ⟨b, o + 4, none⟩ = some (.int .i64 r.wd)
  c5 : w.cell? ⟨b, o + 5, none⟩ = some (.int .i64 r.off)
  c6 : w.cell? ⟨b, o + 6, none⟩ = some (.int .i64 r.fr)
  c7 : w.cell? ⟨b, o + 7, none⟩ = some (.int .i64 r.to)
  c8 : w.cell? ⟨b, o + 8, none⟩ = some (.int .i64 r.mv)
theorem RCells.below {w w' : World} {B b o : Nat} {r : Rul} (h : RCells w b o r) (hb : Below B w w') (hB : b < B) : RCells w' b o r :=
  ⟨(hb.cell (p := ⟨b, o, none⟩) hB).trans h.c0, (hb.cell (p := ⟨b, o + 1, none⟩) hB).trans h.c1, (hb.cell (p := ⟨b, o + 2, none⟩) hB).trans h.c2, (hb.cell (p := ⟨b, o + 3, none⟩) hB).trans h.c3, (hb.cell (p := ⟨b, o + 4, none⟩) hB).trans h.c4, (hb.cell (p := ⟨b, o + 5, none⟩) hB).trans h.c5, (hb.cell (p := ⟨b, o + 6, none⟩) hB).trans h.c6, (hb.cell (p := ⟨b, o + 7, none⟩) hB).trans h.c7, (hb.cell (p := ⟨b, o + 8, none⟩) hB).trans h.c8⟩
/-- A slice that reads as a list of rules. -/
structure RSrc (w : World) (p : Option Addr) (b off : Nat) (rs : List Rul) : Prop where
  at_ : 0 < rs.length → p = some ⟨b, off, none⟩
  lt : 0 < rs.length → b < w.heap.size
  cell : ∀ i, i < rs.length → RCells w b (off + i * 9) (rs.getD i rul0)
theorem RSrc.below {w w' : World} {p : Option Addr} {b off : Nat} {rs : List Rul} (h : RSrc w p b off rs) (hb : Below w.heap.size w w') : RSrc w' p b off rs :=
  ⟨h.at_, fun hx => Nat.lt_of_lt_of_le (h.lt hx) hb.size, fun j hj => (h.cell j hj).below hb (h.lt (by omega))⟩
end Go.Proofs.Ytglkhoekpafddaa
