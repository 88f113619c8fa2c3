/- The joined facts of CodeLeast. -/
import Derived.Test.YtddakophlgindaaGreatDoorWCodeLeastL
namespace Go.Proofs.YtddakophlgindaaGreatDoor
open Go.ChangeShapes Go.WideShapes Go.ChangeAt Go.RowKit Go.ChangeMaps

theorem codeLeast_closed : joinedFacts Tryz.pinned.checked.prog 3 Tryz.f3 Rows.codeLeastSpec Rows.codeLeastRow = true := by kernel_rfl
end Go.Proofs.YtddakophlgindaaGreatDoor
