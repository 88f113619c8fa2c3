/- The joined facts of TextBack. -/
import Derived.Test.YtbgmbodedjhfoaaGreatDoorWTextBackL
namespace Go.Proofs.YtbgmbodedjhfoaaGreatDoor
open Go.ChangeShapes Go.WideShapes Go.ChangeAt Go.RowKit Go.ChangeMaps

theorem textBack_closed : joinedFacts Tryz.pinned.checked.prog 4 Tryz.f4 Rows.textBackSpec Rows.textBackRow = true := by kernel_rfl
end Go.Proofs.YtbgmbodedjhfoaaGreatDoor
