/- The joined facts of TextInts. -/
import Derived.Test.YtgpcebjcleljkaaGreatDoorWTextIntsL
namespace Go.Proofs.YtgpcebjcleljkaaGreatDoor
open Go.ChangeShapes Go.WideShapes Go.ChangeAt Go.RowKit Go.ChangeMaps

theorem textInts_closed : joinedFacts Tryz.pinned.checked.prog 3 Tryz.f3 Rows.textIntsSpec Rows.textIntsRow = true := by kernel_rfl
end Go.Proofs.YtgpcebjcleljkaaGreatDoor
