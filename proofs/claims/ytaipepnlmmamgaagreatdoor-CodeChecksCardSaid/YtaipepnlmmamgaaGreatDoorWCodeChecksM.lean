/- The joined facts of CodeChecks. -/
import Derived.Test.YtaipepnlmmamgaaGreatDoorWCodeChecksL
namespace Go.Proofs.YtaipepnlmmamgaaGreatDoor
open Go.ChangeShapes Go.WideShapes Go.ChangeAt Go.RowKit Go.ChangeMaps

theorem codeChecks_closed : joinedFacts Tryz.pinned.checked.prog 3 Tryz.f3 Rows.codeChecksSpec Rows.codeChecksRow = true := by kernel_rfl
end Go.Proofs.YtaipepnlmmamgaaGreatDoor
