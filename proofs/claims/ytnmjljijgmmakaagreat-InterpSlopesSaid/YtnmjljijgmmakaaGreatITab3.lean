/- Tables laid into a new box, cell by cell. -/
import Derived.Test.YtnmjljijgmmakaaGreatHbg
namespace Go.Proofs.YtnmjljijgmmakaaGreat
open Go.RowKit

def zero3 (t : TypeId) : Obj := .cells #[.int .i64 0, .slice none 0 0, .slice none 0 0] t
def set3 (w : World) (g : Nat) (k : Int) (vx vy : Value) : World := ((w.setCell ⟨g, 0, none⟩ (.int .i64 k)).setCell ⟨g, 1, none⟩ vx).setCell ⟨g, 2, none⟩ vy
/-- A box of three cells. -/
structure Box3 (w : World) (g : Nat) (k : Int) (vx vy : Value) : Prop where
  t0 : w.cell? ⟨g, 0, none⟩ = some (.int .i64 k)
  t1 : w.cell? ⟨g, 1, none⟩ = some vx
  t2 : w.cell? ⟨g, 2, none⟩ = some vy
  lt : g < w.heap.size
theorem Box3.step {w w' : World} {g : Nat} {k : Int} {vx vy : Value} (h : Box3 w g k vx vy) (hb : Below w.heap.size w w') : Box3 w' g k vx vy :=
  ⟨(hb.cell (p := ⟨g, 0, none⟩) h.lt).trans h.t0, (hb.cell (p := ⟨g, 1, none⟩) h.lt).trans h.t1, (hb.cell (p := ⟨g, 2, none⟩) h.lt).trans h.t2, Nat.lt_of_lt_of_le h.lt hb.size⟩
theorem zero3_cells (w : World) (t : TypeId) : ((w.alloc (zero3 t)).cell? ⟨w.heap.size, 0, none⟩ = some (.int .i64 0) ∧ (w.alloc (zero3 t)).cell? ⟨w.heap.size, 1, none⟩ = some (.slice none 0 0) ∧ (w.alloc (zero3 t)).cell? ⟨w.heap.size, 2, none⟩ = some (.slice none 0 0)) ∧ ∀ i, (w.alloc (zero3 t)).frozen? ⟨w.heap.size, i, none⟩ = false := by
  have h := heap_alloc_new w (zero3 t)
  unfold zero3 at h
  refine ⟨⟨by unfold zero3; simp, by unfold zero3; simp, by unfold zero3; simp⟩, fun i => frozen_of_row _ _ i _ _ h⟩
theorem set3_box (w : World) (t : TypeId) (k : Int) (vx vy : Value) : Box3 (set3 (w.alloc (zero3 t)) w.heap.size k vx vy) w.heap.size k vx vy ∧ Below w.heap.size w (set3 (w.alloc (zero3 t)) w.heap.size k vx vy) := by
  have h := heap_alloc_new w (zero3 t)
  unfold zero3 at h
  have h3 : (set3 (w.alloc (zero3 t)) w.heap.size k vx vy).heap[w.heap.size]? = some (.cells #[.int .i64 k, vx, vy] t) := set_blockF _ (set_blockF _ (set_blockF _ h))
  refine ⟨⟨?_, ?_, ?_, (Array.getElem?_eq_some_iff.1 h3).1⟩, ((((Below.refl _ w).alloc (Nat.le_refl _) _).setCell (p := ⟨w.heap.size, 0, none⟩) (Nat.le_refl _) _).setCell (p := ⟨w.heap.size, 1, none⟩) (Nat.le_refl _) _).setCell (p := ⟨w.heap.size, 2, none⟩) (Nat.le_refl _) _⟩
  all_goals
    simp only [World.cell?, h3, Option.isSome_none, Bool.false_eq_true, if_false]
    rfl
end Go.Proofs.YtnmjljijgmmakaaGreat
