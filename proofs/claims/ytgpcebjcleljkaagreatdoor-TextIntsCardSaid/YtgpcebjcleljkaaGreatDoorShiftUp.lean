/- The contract of ShiftUp. -/
import Derived.Test.YtgpcebjcleljkaaGreatDoorHan
import Derived.Deep.OwnRows
namespace Go.Proofs.YtgpcebjcleljkaaGreatDoor
open Go.RowKit

theorem info_u64 : (Tryz.prog.info? 33).map (fun i => (i.zero, i.size, i.bytes)) = some (some (.int .u64 0), 1, 8) := by kernel_rfl

def Own (w : World) (b n M : Nat) : Prop := w.rowIs b 33 n (fun i => .int .u64 (dgt M i : Int))
theorem Own.row {w : World} {b n M : Nat} (h : Own w b n M) : RowIs w b n M := fun _ hi => h.cell hi
theorem own_made (w : World) (n : Nat) : Own (w.alloc (.cells (madeCells #[.int .u64 0] n) 33)) w.heap.size n 0 :=
  (World.rowIs_made w (.int .u64 0) n 33).congr (fun i _ => by rw [dgt_zero]; rfl)

end Go.Proofs.YtgpcebjcleljkaaGreatDoor
