/- The joined facts of TextHexes. -/
import Derived.Test.YtbgmbodedjhfoaaGreatDoorWTextHexesL
namespace Go.Proofs.YtbgmbodedjhfoaaGreatDoor
open Go.ChangeShapes Go.WideShapes Go.ChangeAt Go.RowKit Go.ChangeMaps

theorem textHexes_closed : joinedFacts Tryz.pinned.checked.prog 3 Tryz.f3 Rows.textHexesSpec Rows.textHexesRow = true := by kernel_rfl
end Go.Proofs.YtbgmbodedjhfoaaGreatDoor
